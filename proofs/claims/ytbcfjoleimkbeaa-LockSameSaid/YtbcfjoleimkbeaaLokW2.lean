/- The walk of LockSame. -/
import Derived.Test.YtbcfjoleimkbeaaLokB
import Derived.Test.YtbcfjoleimkbeaaLokO
import Derived.OpenShut
namespace Go.Proofs.Ytbcfjoleimkbeaa.Walk
open Go.RowKit Go.ChangeShapes Go.Proofs.Ytbcfjoleimkbeaa.CarP Go.Proofs.Ytbcfjoleimkbeaa.LefP Go.Proofs.Ytbcfjoleimkbeaa.LokP Go.Proofs.Ytbcfjoleimkbeaa.Lok Go.Proofs.Ytbcfjoleimkbeaa.Box Go.Proofs.Ytbcfjoleimkbeaa.Open
set_option linter.unusedVariables false

set_option maxRecDepth 100000 in
set_option maxHeartbeats 6400000 in
theorem lockSame_walk (w : World) (c : K) (wd : Int) (a : Askd) (w0 : (Lit.int .u8 wd).wf = true) : Calls Try.prog 6 #[Car.val c, .int .u8 wd, a.val] w fun e w' => e = .returned (.bool true) ∧ Below w.heap.size w w' := by
  have hwd := bounds_u8 w0
  clear w0
  have HA : Hid (∀ W, Calls Try.prog 7 #[] W (Says W (.bool true))) := Lib.hid fun W => awake_any W
  obtain ⟨n, hn⟩ : ∃ n, wd % 16 = n := ⟨_, rfl⟩
  have t1 : wd.tmod 16 = n := by rw [Int.tmod_eq_emod_of_nonneg (by omega)]; exact hn
  have t2 : IntKind.u8.wrap n = n := IntWalk.u8_in _ (by omega)
  have t3 : IntKind.i64.wrap n = n := IntWalk.i64_in _ (by omega)
  obtain ⟨d, hd⟩ : ∃ d, n + 1 = d := ⟨_, rfl⟩
  have t4 : IntKind.i64.wrap (n + 1) = d := by rw [hd]; exact IntWalk.i64_in _ (by omega)
  have HMy : Hid (∀ W, Calls Try.prog 8 #[Car.val c, Lef.val ⟨0, d⟩] W (Says W (.bool (both c ⟨0, d⟩)))) := Lib.hid fun W => may_any c ⟨0, d⟩ W
  clear hn hd hwd
  obtain ⟨av, ab, aw, ax⟩ := a
  have hj := Lib.hid (J.two w (Car.arr c) #[.int .i64 av, .bool ab, .int .i64 aw, .bool ax] 23 27)
  unfold Askd.val
  simp only
  by_cases hb : both c ⟨0, d⟩ = true
  · rw [hb] at HMy
    obtain ⟨hc, hl⟩ := both_may hb
    have HD : Hid (∀ W, Calls Try.prog 9 #[Car.val c, Lef.val ⟨0, d⟩, .int .i64 av, .bool ab, .int .i64 aw] W (Says W (.tuple #[.int .i64 av, .bool ab, .int .i64 (dw (lv c) ab aw)]))) := Lib.hid fun W => Does_any c hc.p0 ⟨0, d⟩ av ab aw W
    have HD2 : Hid (∀ W, Calls Try.prog 9 #[Car.val c, Lef.val ⟨0, d⟩, .int .i64 av, .bool ab, .int .i64 (dw (lv c) ab aw)] W (Says W (.tuple #[.int .i64 av, .bool ab, .int .i64 (dw (lv c) ab aw)]))) := Lib.hid fun W => by
      have := Does_any c hc.p0 ⟨0, d⟩ av ab (dw (lv c) ab aw) W
      have e : dw (lv c) (db 0 ab) (dw (lv c) ab aw) = dw (lv c) ab aw := md_dw _ _ _
      simp only at this
      rw [e] at this
      exact this
    have kx : (aw = 2 ∧ dw (lv c) ab aw = 2) ∨ ((aw == 2) = false ∧ (aw != 2) = true ∧ dw (lv c) ab aw = aw) ∨ ((aw == 2) = false ∧ (aw != 2) = true ∧ ((0 : Int) == aw) = false ∧ dw (lv c) ab aw = 0) := by
      unfold dw md
      by_cases h2 : aw = 2
      · left; exact ⟨h2, by simp [h2]⟩
      · right
        by_cases h0 : aw = 0
        · left; refine ⟨by simpa using h2, by simpa using h2, ?_⟩
          subst h0; simp
        · by_cases h1 : aw = 1
          · subst h1
            cases hh : ab && lv c
            · right; exact ⟨by simp, by simp, by simp, by simp⟩
            · left; exact ⟨by simp, by simp, by simp⟩
          · right; refine ⟨by simpa using h2, by simpa using h2, by simpa using Ne.symm h0, by simp [h1, h2]⟩
    clear hb hc hl
    generalize dw (lv c) ab aw = x at *
    obtain ⟨p, v, k⟩ := c
    unfold Car.val Car.arr Lef.val at *
    simp only at *
    have e1 : (av == av) = true := by simp
    have e2 : (ab == ab) = true := by simp
    have e3 : (x == x) = true := by simp
    rcases kx with ⟨rfl, rfl⟩ | ⟨k1, k2, rfl⟩ | ⟨k1, k2, k3, rfl⟩
    all_goals
      go_enter Try.func6, Try.ntmps6
      go_wp2_with (first
        | (go_at_call 7; refine (HA.out _).mono ?_; clear HA; rintro e w1 ⟨rfl, h1⟩; have hj1 := Lib.hid ((hj.out.next h1).push #[.int .i64 0, .int .i64 d] 25); clear h1 hj; obtain ⟨a0, a1, a2⟩ := (hj1.out.bx 2 rfl).c3)
        | (go_at_call 8; refine (HMy.out _).mono ?_; clear HMy a0 a1 a2; rintro e w2 ⟨rfl, h2⟩; have hj2 := Lib.hid (hj1.out.next h2); clear h2 hj1; obtain ⟨a0, a1, a2⟩ := (hj2.out.bx 2 rfl).c3; obtain ⟨b0, b1⟩ := (hj2.out.bx 0 rfl).c2; obtain ⟨d0, d1, d2, d3⟩ := (hj2.out.bx 1 rfl).c4)
        | (go_at_call 9; (with_reducible refine (HD.out _).mono ?_); clear HD a0 a1 a2 b0 b1 d0 d1 d2 d3; rintro e w3 ⟨rfl, h3⟩; have hj3 := Lib.hid (hj2.out.next h3); clear h3 hj2; obtain ⟨a0, a1, a2⟩ := (hj3.out.bx 2 rfl).c3; obtain ⟨b0, b1⟩ := (hj3.out.bx 0 rfl).c2)
        | (go_at_call 9; (with_reducible refine (HD2.out _).mono ?_); clear HD2 a0 a1 a2 b0 b1; rintro e w4 ⟨rfl, h4⟩; have hj4 := Lib.hid (hj3.out.next h4); clear h4 hj3; obtain ⟨d0, d1, d2, d3⟩ := (hj4.out.bx 1 rfl).c4))
      go_ret
      exact ⟨rfl, hj4.out.below⟩
  · rw [Bool.not_eq_true] at hb
    rw [hb] at HMy
    clear hb
    obtain ⟨p, v, k⟩ := c
    unfold Car.val Car.arr Lef.val at *
    simp only at *
    go_enter Try.func6, Try.ntmps6
    go_wp2_with (first
      | (go_at_call 7; refine (HA.out _).mono ?_; clear HA; rintro e w1 ⟨rfl, h1⟩; have hj1 := Lib.hid ((hj.out.next h1).push #[.int .i64 0, .int .i64 d] 25); clear h1 hj; obtain ⟨a0, a1, a2⟩ := (hj1.out.bx 2 rfl).c3)
      | (go_at_call 8; refine (HMy.out _).mono ?_; clear HMy; rintro e w2 ⟨rfl, h2⟩; have hj2 := Lib.hid (hj1.out.next h2)))
    go_ret
    exact ⟨rfl, hj2.out.below⟩

end Go.Proofs.Ytbcfjoleimkbeaa.Walk
