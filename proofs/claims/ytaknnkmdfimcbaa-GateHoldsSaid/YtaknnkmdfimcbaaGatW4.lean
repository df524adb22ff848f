/- The walk of GateHolds. -/
import Derived.Test.YtaknnkmdfimcbaaGatB
import Derived.OpenShut
namespace Go.Proofs.Ytaknnkmdfimcbaa.Walk
open Go.RowKit Go.ChangeShapes Go.Proofs.Ytaknnkmdfimcbaa.CarP Go.Proofs.Ytaknnkmdfimcbaa.LefP Go.Proofs.Ytaknnkmdfimcbaa.LokP Go.Proofs.Ytaknnkmdfimcbaa.GatP Go.Proofs.Ytaknnkmdfimcbaa.Gat Go.Proofs.Ytaknnkmdfimcbaa.Box Go.Proofs.Ytaknnkmdfimcbaa.Held
set_option linter.unusedVariables false

set_option maxRecDepth 100000 in
set_option maxHeartbeats 6400000 in
theorem gateHolds_walk (w : World) (c : K) (l : L) (op : Bool) :
    Calls Try.prog 6 #[Car.val c, Lef.val l, .bool op] w fun e w' => e = .returned (.bool true) ∧ Below w.heap.size w w' := by
  have HA : Hid (∀ W, Calls Try.prog 8 #[] W (Says W (.bool true))) := Lib.hid fun W => awake_any W
  have HM : Hid (∀ W, Calls Try.prog 9 #[Car.val c, Lef.val l] W (Says W (.bool (both c l)))) := Lib.hid fun W => may_any c l W
  have hj := Lib.hid (J.two w (Car.arr c) (Lef.arr l) 23 25)
  cases hb : both c l
  · rw [hb] at HM
    clear hb
    obtain ⟨p, v, k⟩ := c
    obtain ⟨o, d⟩ := l
    unfold Car.val Car.arr Lef.val Lef.arr at *
    simp only at *
    go_enter Try.func6, Try.ntmps6
    go_wp2_with (first
      | (go_at_call 8; (with_reducible refine (HA.out _).mono ?_); clear HA; rintro e w1 ⟨rfl, h1⟩; have hj1 := Lib.hid (hj.out.next h1); clear h1 hj; obtain ⟨a0, a1, a2⟩ := (hj1.out.bx 1 rfl).c3; obtain ⟨l0, l1⟩ := (hj1.out.bx 0 rfl).c2)
      | (go_at_call 9; (with_reducible refine (HM.out _).mono ?_); clear HM; rintro e w2 ⟨rfl, h2⟩; have hj2 := Lib.hid (hj1.out.next h2)))
    go_ret
    exact ⟨rfl, hj2.out.below⟩
  · obtain ⟨hc, hl⟩ := both_may hb
    rw [hb] at HM
    clear hb
    have HWa : Hid (∀ W, Calls Try.prog 12 #[Car.val c, Lef.val l, .bool op, .bool false] W (Says W (.int .i64 (wh c l op false)))) := Lib.hid fun W => What_any c hc.p0 l op false W
    have HWb : Hid (∀ W, Calls Try.prog 12 #[Car.val c, Lef.val l, .bool op, .bool true] W (Says W (.int .i64 (wh c l op true)))) := Lib.hid fun W => What_any c hc.p0 l op true W
    have HSt : Hid (∀ W, Calls Try.prog 14 #[Lef.val l, .int .i64 (wh c l op true), .bool false] W (Says W (Lef.val (st l (wh c l op true) false)))) := Lib.hid fun W => Lef.Step_any l hl _ false W
    have HL : Hid (∀ W, Calls Try.prog 15 #[Car.val c] W (Says W (.bool (lv c)))) := Lib.hid fun W => Car.Level_any c hc.p0 W
    have HWd : Hid (∀ W, Calls Try.prog 16 #[Lef.val l] W (Says W (.bool (wd l)))) := Lib.hid fun W => Lef.Wide_any l W
    have HSh : Hid (∀ W, Calls Try.prog 17 #[Lef.val l] W (Says W (.bool (sh l)))) := Lib.hid fun W => Lef.Shut_any l W
    have e0 : wh c l op false = 0 := by unfold wh wx; simp
    rw [e0] at HWa
    have hx : wh c l op true = wx (lv c) (wd l) (sh l) op true := rfl
    have hst : st l (wh c l op true) false = ⟨so l.o l.d (wh c l op true) false, l.d⟩ := rfl
    rw [hst] at HSt
    rw [hx] at HWb HSt
    clear e0 hx hst
    obtain ⟨o0, o1, d0, d1⟩ := hl
    have f1 : IntKind.i64.wrap (l.o + 1) = l.o + 1 := IntWalk.i64_in _ (by omega)
    have f2 : IntKind.i64.wrap (l.o - 1) = l.o - 1 := IntWalk.i64_in _ (by omega)
    have m1 : ∀ W, (Builtin.min_ #[3, 3] 3 #[.int .i64 (l.o + 1), .int .i64 l.d]).run Try.prog W = .ok (.int .i64 (min (l.o + 1) l.d)) W := fun W => by
      rw [run_min_int2]; congr 2; split <;> omega
    have m2 : ∀ W, (Builtin.max_ #[3, 3] 3 #[.int .i64 (l.o - 1), .int .i64 0]).run Try.prog W = .ok (.int .i64 (max (l.o - 1) 0)) W := fun W => by
      rw [run_max_int2]; congr 2; split <;> omega
    have z1 : (l.o == l.o) = true := by simp
    have z2 : (l.d == l.d) = true := by simp
    have ways : (op = true ∧ lv c = true ∧ wd l = false ∧ wx (lv c) (wd l) (sh l) op true = 1 ∧ (so l.o l.d (wx (lv c) (wd l) (sh l) op true) false == min (l.o + 1) l.d) = true) ∨
        (op = true ∧ wx (lv c) (wd l) (sh l) op true = 0 ∧ (so l.o l.d (wx (lv c) (wd l) (sh l) op true) false == min (l.o + 1) l.d) = true) ∨
        (op = true ∧ lv c = false ∧ wx (lv c) (wd l) (sh l) op true = 0 ∧ (so l.o l.d (wx (lv c) (wd l) (sh l) op true) false == l.o) = true ∧ (so l.o l.d (wx (lv c) (wd l) (sh l) op true) false == min (l.o + 1) l.d) = false) ∨
        (op = false ∧ wx (lv c) (wd l) (sh l) op true = 0 ∧ (so l.o l.d (wx (lv c) (wd l) (sh l) op true) false == max (l.o - 1) 0) = true) ∨
        (op = false ∧ sh l = false ∧ wx (lv c) (wd l) (sh l) op true = 2 ∧ (so l.o l.d (wx (lv c) (wd l) (sh l) op true) false == max (l.o - 1) 0) = true) := by
      have hwd : wd l = decide (l.o = l.d) := rfl
      have hsh : sh l = decide (l.o = 0) := rfl
      cases op
      · by_cases hs : l.o = 0
        · have q : sh l = true := by rw [hsh]; simpa using hs
          right; right; right; left
          refine ⟨rfl, by rw [q]; rfl, ?_⟩
          rw [q, beq_iff_eq]
          show so l.o l.d 0 false = _
          unfold so; simp; omega
        · have q : sh l = false := by rw [hsh]; simpa using hs
          right; right; right; right
          refine ⟨rfl, q, by rw [q]; rfl, ?_⟩
          rw [q, beq_iff_eq]
          show so l.o l.d 2 false = _
          unfold so; simp; omega
      · by_cases hw : l.o = l.d
        · have q : wd l = true := by rw [hwd]; simpa using hw
          have q2 : wx (lv c) true (sh l) true true = 0 := by cases lv c <;> rfl
          right; left
          rw [q, q2]
          refine ⟨rfl, rfl, ?_⟩
          rw [beq_iff_eq]
          unfold so; simp; omega
        · have q : wd l = false := by rw [hwd]; simpa using hw
          rw [q]
          cases hy : lv c
          · right; right; left
            refine ⟨rfl, rfl, rfl, ?_, ?_⟩
            · rw [beq_iff_eq]; rfl
            · rw [beq_eq_false_iff_ne]
              show l.o ≠ _
              omega
          · left
            refine ⟨rfl, rfl, rfl, rfl, ?_⟩
            rw [beq_iff_eq]
            show so l.o l.d 1 false = _
            unfold so; simp; omega
    clear o0 o1 d0 d1 hc
    generalize so l.o l.d (wx (lv c) (wd l) (sh l) op true) false = x1 at *
    generalize wx (lv c) (wd l) (sh l) op true = x at *
    generalize lv c = y at *
    generalize wd l = z at *
    generalize sh l = s at *
    generalize min (l.o + 1) l.d = qi at *
    generalize max (l.o - 1) 0 = qa at *
    obtain ⟨p, v, k⟩ := c
    obtain ⟨o, d⟩ := l
    unfold Car.val Car.arr Lef.val Lef.arr at *
    simp only at *
    rcases ways with ⟨rfl, rfl, rfl, rfl, k1⟩ | ⟨rfl, rfl, k1⟩ | ⟨rfl, rfl, rfl, k2, k1⟩ | ⟨rfl, rfl, k1⟩ | ⟨rfl, rfl, rfl, k1⟩
    all_goals
      go_enter Try.func6, Try.ntmps6
      go_wp2_with (first
        | (go_at_call 8; (with_reducible refine (HA.out _).mono ?_); clear HA; rintro e w1 ⟨rfl, h1⟩; have hj1 := Lib.hid (hj.out.next h1); clear h1 hj; obtain ⟨a0, a1, a2⟩ := (hj1.out.bx 1 rfl).c3; obtain ⟨l0, l1⟩ := (hj1.out.bx 0 rfl).c2)
        | (go_at_call 9; (with_reducible refine (HM.out _).mono ?_); clear HM a0 a1 a2 l0 l1; rintro e w2 ⟨rfl, h2⟩; have hj2 := Lib.hid (hj1.out.next h2); clear h2 hj1; obtain ⟨a0, a1, a2⟩ := (hj2.out.bx 1 rfl).c3; obtain ⟨l0, l1⟩ := (hj2.out.bx 0 rfl).c2)
        | (go_at_call 12; (with_reducible refine (HWa.out _).mono ?_); clear HWa a0 a1 a2 l0 l1; rintro e w3 ⟨rfl, h3⟩; have hj3 := Lib.hid (hj2.out.next h3); clear h3 hj2; obtain ⟨a0, a1, a2⟩ := (hj3.out.bx 1 rfl).c3; obtain ⟨l0, l1⟩ := (hj3.out.bx 0 rfl).c2)
        | (go_at_call 12; (with_reducible refine (HWb.out _).mono ?_); clear HWb a0 a1 a2 l0 l1; rintro e w4 ⟨rfl, h4⟩; have hj4 := Lib.hid (hj3.out.next h4); clear h4 hj3; obtain ⟨a0, a1, a2⟩ := (hj4.out.bx 1 rfl).c3; obtain ⟨l0, l1⟩ := (hj4.out.bx 0 rfl).c2)
        | (go_at_call 14; (with_reducible refine (HSt.out _).mono ?_); clear HSt a0 a1 a2 l0 l1; rintro e w5 ⟨rfl, h5⟩; have hj5 := Lib.hid ((hj4.out.next h5).push #[.int .i64 x1, .int .i64 d] 25); clear h5 hj4; obtain ⟨a0, a1, a2⟩ := (hj5.out.bx 2 rfl).c3; obtain ⟨l0, l1⟩ := (hj5.out.bx 1 rfl).c2; obtain ⟨m0, m1⟩ := (hj5.out.bx 0 rfl).c2)
        | (go_at_call 15; (with_reducible refine (HL.out _).mono ?_); clear HL a0 a1 a2 l0 l1 m0 m1; rintro e w6 ⟨rfl, h6⟩; have hj6 := Lib.hid (hj5.out.next h6); clear h6 hj5; obtain ⟨a0, a1, a2⟩ := (hj6.out.bx 2 rfl).c3; obtain ⟨l0, l1⟩ := (hj6.out.bx 1 rfl).c2; obtain ⟨m0, m1⟩ := (hj6.out.bx 0 rfl).c2)
        | (go_at_call 16; (with_reducible refine (HWd.out _).mono ?_); clear HWd a0 a1 a2 l0 l1 m0 m1; rintro e w7 ⟨rfl, h7⟩; have hj7 := Lib.hid (hj6.out.next h7); clear h7 hj6; obtain ⟨a0, a1, a2⟩ := (hj7.out.bx 2 rfl).c3; obtain ⟨l0, l1⟩ := (hj7.out.bx 1 rfl).c2; obtain ⟨m0, m1⟩ := (hj7.out.bx 0 rfl).c2)
        | (go_at_call 17; (with_reducible refine (HSh.out _).mono ?_); clear HSh a0 a1 a2 l0 l1 m0 m1; rintro e w8 ⟨rfl, h8⟩; have hj8 := Lib.hid (hj5.out.next h8); clear h8 hj5; obtain ⟨a0, a1, a2⟩ := (hj8.out.bx 2 rfl).c3; obtain ⟨l0, l1⟩ := (hj8.out.bx 1 rfl).c2; obtain ⟨m0, m1⟩ := (hj8.out.bx 0 rfl).c2))
      go_ret
      first
        | exact ⟨rfl, hj8.out.below⟩
        | exact ⟨rfl, hj7.out.below⟩
        | exact ⟨rfl, hj6.out.below⟩
        | exact ⟨rfl, hj5.out.below⟩
        | exact ⟨ret_bool (by simp_all), hj8.out.below⟩
        | exact ⟨ret_bool (by simp_all), hj7.out.below⟩
        | exact ⟨ret_bool (by simp_all), hj6.out.below⟩
        | exact ⟨ret_bool (by simp_all), hj5.out.below⟩

end Go.Proofs.Ytaknnkmdfimcbaa.Walk
