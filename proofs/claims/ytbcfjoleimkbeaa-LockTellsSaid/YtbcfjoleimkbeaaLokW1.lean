/- The walks of LockTells, LockSame. -/
import Derived.Test.YtbcfjoleimkbeaaLokB
import Derived.Test.YtbcfjoleimkbeaaLokO
import Derived.OpenShut
namespace Go.Proofs.Ytbcfjoleimkbeaa.Walk
open Go.RowKit Go.ChangeShapes Go.Proofs.Ytbcfjoleimkbeaa.CarP Go.Proofs.Ytbcfjoleimkbeaa.LefP Go.Proofs.Ytbcfjoleimkbeaa.LokP Go.Proofs.Ytbcfjoleimkbeaa.Lok Go.Proofs.Ytbcfjoleimkbeaa.Box Go.Proofs.Ytbcfjoleimkbeaa.Open
set_option linter.unusedVariables false

set_option maxRecDepth 100000 in
set_option maxHeartbeats 6400000 in
theorem lockTells_walk (w : World) (c : K) (l : L) (a : Askd) : Calls Try.prog 3 #[Car.val c, Lef.val l, a.val] w fun e w' => e = .returned (.bool true) ∧ Below w.heap.size w w' := by
  have HA : Hid (∀ W, Calls Try.prog 7 #[] W (Says W (.bool true))) := Lib.hid fun W => awake_any W
  have HMy : Hid (∀ W, Calls Try.prog 8 #[Car.val c, Lef.val l] W (Says W (.bool (both c l)))) := Lib.hid fun W => may_any c l W
  obtain ⟨av, ab, aw, ax⟩ := a
  have hj := Lib.hid (J.three w (Car.arr c) (Lef.arr l) #[.int .i64 av, .bool ab, .int .i64 aw, .bool ax] 23 25 27)
  unfold Askd.val
  simp only
  by_cases hb : both c l = true
  · rw [hb] at HMy
    obtain ⟨hc, hl⟩ := both_may hb
    have HD : Hid (∀ W, Calls Try.prog 9 #[Car.val c, Lef.val l, .int .i64 av, .bool ab, .int .i64 aw] W (Says W (.tuple #[.int .i64 (dv l.o av), .bool (db l.o ab), .int .i64 (dw (lv c) (db l.o ab) aw)]))) := Lib.hid fun W => Does_any c hc.p0 l av ab aw W
    have HM : Hid (∀ W, Calls Try.prog 10 #[Lef.val l] W (Says W (.bool (decide (l.o = 0))))) := Lib.hid fun W => Moves_any l W
    have HO : Hid (∀ W, Calls Try.prog 11 #[Car.val c] W (Says W (.bool (lv c)))) := Lib.hid fun W => Opens_any c hc.p0 W
    have HS : Hid (∀ W, Calls Try.prog 12 #[Car.val c, Lef.val l] W (Says W (.bool (decide (l.o = 0) || lv c)))) := Lib.hid fun W => Safe_any c hc.p0 l W
    have f1 : c.p.tmod 8 = c.p % 8 := Int.tmod_eq_emod_of_nonneg hc.p0
    have f2 : IntKind.i64.wrap (c.p % 8) = c.p % 8 := IntWalk.i64_in _ (by omega)
    have kv : (c.v = 0 ∧ c.p % 8 = 0 ∧ lv c = true) ∨ (c.v = 0 ∧ (c.p % 8 == 0) = false ∧ lv c = false) ∨ ((c.v == 0) = false ∧ lv c = false) := by
      unfold lv
      by_cases h1 : c.v = 0
      · by_cases h2 : c.p % 8 = 0
        · exact .inl ⟨h1, h2, by simp [h1, h2]⟩
        · exact .inr (.inl ⟨h1, by simpa using h2, by simp [h2]⟩)
      · exact .inr (.inr ⟨by simpa using h1, by simp [h1]⟩)
    have ko : (l.o = 0 ∧ decide (l.o = 0) = true ∧ dv l.o av = av ∧ db l.o ab = ab) ∨ ((l.o == 0) = false ∧ decide (l.o = 0) = false ∧ dv l.o av = 0 ∧ db l.o ab = true) := by
      unfold dv db
      by_cases h : l.o = 0
      · left; simp [h]
      · right; simp [h]
    have kw : (aw = 2 ∧ ∀ y b, dw y b aw = 2) ∨ (aw = 1 ∧ ∀ y b, dw y b aw = if b && y then 1 else 0) ∨ ((aw == 2) = false ∧ (aw == 1) = false ∧ ∀ y b, dw y b aw = 0) := by
      unfold dw md
      by_cases h2 : aw = 2
      · left; exact ⟨h2, fun y b => by simp [h2]⟩
      · by_cases h1 : aw = 1
        · right; left; refine ⟨h1, fun y b => ?_⟩
          subst h1
          cases b <;> cases y <;> simp
        · right; right; exact ⟨by simpa using h2, by simpa using h1, fun y b => by simp [h1, h2]⟩
    clear hb hc hl
    obtain ⟨x, hx⟩ : ∃ x, dw (lv c) (db l.o ab) aw = x := ⟨_, rfl⟩
    rw [hx] at HD
    have kx : (aw = 2 ∧ x = 2) ∨ (aw = 1 ∧ x = if db l.o ab && lv c then 1 else 0) ∨ ((aw == 2) = false ∧ (aw == 1) = false ∧ x = 0) := by
      rcases kw with ⟨h, k⟩ | ⟨h, k⟩ | ⟨h, h', k⟩
      · exact .inl ⟨h, by rw [← hx, k]⟩
      · exact .inr (.inl ⟨h, by rw [← hx, k]⟩)
      · exact .inr (.inr ⟨h, h', by rw [← hx, k]⟩)
    clear kw hx
    generalize lv c = y at *
    generalize dv l.o av = av' at *
    generalize db l.o ab = ab' at *
    obtain ⟨p, v, k⟩ := c
    obtain ⟨o, d⟩ := l
    unfold Car.val Car.arr Lef.val Lef.arr at *
    simp only at *
    generalize decide (o = 0) = z at *
    generalize p % 8 = r at *
    rcases ko with ⟨rfl, rfl, rfl, rfl⟩ | ⟨ko, rfl, rfl, rfl⟩
    all_goals
      rcases kv with ⟨rfl, rfl, rfl⟩ | ⟨rfl, k1, rfl⟩ | ⟨k1, rfl⟩
      all_goals
        simp only [Bool.true_or, Bool.false_or, Bool.and_true, Bool.and_false, if_true, if_false, Bool.false_eq_true] at kx HS
        rcases kx with ⟨rfl, rfl⟩ | ⟨rfl, kx⟩ | ⟨k3, k4, rfl⟩
        all_goals
          first
            | (cases ab' <;> simp only [if_true, if_false, Bool.false_eq_true] at *)
            | skip
          all_goals
            try subst kx
            go_enter Try.func3, Try.ntmps3
            go_wp2_with (first
              | (go_at_call 7; refine (HA.out _).mono ?_; clear HA; rintro e w1 ⟨rfl, h1⟩; have hj1 := Lib.hid (hj.out.next h1); clear h1 hj; obtain ⟨a0, a1, a2⟩ := (hj1.out.bx 2 rfl).c3; obtain ⟨b0, b1⟩ := (hj1.out.bx 1 rfl).c2)
              | (go_at_call 8; refine (HMy.out _).mono ?_; clear HMy a0 a1 a2 b0 b1; rintro e w2 ⟨rfl, h2⟩; have hj2 := Lib.hid (hj1.out.next h2); clear h2 hj1; obtain ⟨a0, a1, a2⟩ := (hj2.out.bx 2 rfl).c3; obtain ⟨b0, b1⟩ := (hj2.out.bx 1 rfl).c2; obtain ⟨d0, d1, d2, d3⟩ := (hj2.out.bx 0 rfl).c4)
              | (go_at_call 9; refine (HD.out _).mono ?_; clear HD a0 a1 a2 b0 b1 d0 d1 d2 d3; rintro e w3 ⟨rfl, h3⟩; have hj3 := Lib.hid (hj2.out.next h3); clear h3 hj2; obtain ⟨a0, a1, a2⟩ := (hj3.out.bx 2 rfl).c3; obtain ⟨b0, b1⟩ := (hj3.out.bx 1 rfl).c2)
              | (go_at_call 10; refine (HM.out _).mono ?_; clear HM a0 a1 a2 b0 b1; rintro e w4 ⟨rfl, h4⟩; have hj4 := Lib.hid (hj3.out.next h4); clear h4 hj3; obtain ⟨a0, a1, a2⟩ := (hj4.out.bx 2 rfl).c3; obtain ⟨b0, b1⟩ := (hj4.out.bx 1 rfl).c2)
              | (go_at_call 11; refine (HO.out _).mono ?_; clear HO a0 a1 a2 b0 b1; rintro e w5 ⟨rfl, h5⟩; have hj5 := Lib.hid (hj4.out.next h5); clear h5 hj4; obtain ⟨a0, a1, a2⟩ := (hj5.out.bx 2 rfl).c3; obtain ⟨b0, b1⟩ := (hj5.out.bx 1 rfl).c2)
              | (go_at_call 12; refine (HS.out _).mono ?_; clear HS a0 a1 a2 b0 b1; rintro e w6 ⟨rfl, h6⟩; have hj6 := Lib.hid (hj5.out.next h6); clear h6 hj5; obtain ⟨d0, d1, d2, d3⟩ := (hj6.out.bx 0 rfl).c4))
            go_ret
            exact ⟨rfl, hj6.out.below⟩
  · rw [Bool.not_eq_true] at hb
    rw [hb] at HMy
    clear hb
    obtain ⟨p, v, k⟩ := c
    obtain ⟨o, d⟩ := l
    unfold Car.val Car.arr Lef.val Lef.arr at *
    simp only at *
    go_enter Try.func3, Try.ntmps3
    go_wp2_with (first
      | (go_at_call 7; refine (HA.out _).mono ?_; clear HA; rintro e w1 ⟨rfl, h1⟩; have hj1 := Lib.hid (hj.out.next h1); clear h1 hj; obtain ⟨a0, a1, a2⟩ := (hj1.out.bx 2 rfl).c3; obtain ⟨b0, b1⟩ := (hj1.out.bx 1 rfl).c2)
      | (go_at_call 8; refine (HMy.out _).mono ?_; clear HMy; rintro e w2 ⟨rfl, h2⟩; have hj2 := Lib.hid (hj1.out.next h2)))
    go_ret
    exact ⟨rfl, hj2.out.below⟩

end Go.Proofs.Ytbcfjoleimkbeaa.Walk
