/- The walk of FeedSteps. -/
import Derived.Test.YtfcdfkodafikdaaFedC
import Derived.Test.YtfcdfkodafikdaaFedS
import Derived.Laws.StructEq
namespace Go.Proofs.Ytfcdfkodafikdaa.Walk
open Go.RowKit Go.ChangeShapes Go.Proofs.Ytfcdfkodafikdaa.FedP Go.Proofs.Ytfcdfkodafikdaa.Fed Go.Proofs.Ytfcdfkodafikdaa.Box Go.Proofs.Ytfcdfkodafikdaa.Held Go.Proofs.Ytfcdfkodafikdaa.Sees Go.Proofs.Ytfcdfkodafikdaa.Open
set_option linter.unusedVariables false

set_option maxRecDepth 100000 in
set_option maxHeartbeats 6400000 in
theorem feedSteps_walk (w : World) (f : F) (s : Sp) (mains gen : Bool) (hl : f.l < 9223372036854775808) : Calls Try.prog 3 #[val f, s.val, .bool mains, .bool gen] w fun e w' => e = .returned (.bool true) ∧ Below w.heap.size w w' := by
  have HA : Hid (∀ W, Calls Try.prog 9 #[] W (Says W (.bool true))) := Lib.hid fun W => awake_any W
  have HS := Lib.hid (fun W => Step_any f hl s.w s.s s.d W)
  have HR := Lib.hid (fun W => refStep_any f hl s.w s.s s.d W)
  have HP := Lib.hid (fun W => Power_any f mains gen W)
  have HQ := Lib.hid (fun W => refPower_any f mains gen W)
  have HO := Lib.hid (fun W => of_any f W)
  have HO2 := Lib.hid (fun W => of_any (st f s.w s.s s.d) W)
  generalize st f s.w s.s s.d = g at *
  generalize pw f.a mains gen = p at *
  obtain ⟨a, t, l⟩ := f
  obtain ⟨x, y, z⟩ := g
  obtain ⟨sw, ss, sd⟩ := s
  unfold val at *
  unfold Sp.val Sp.cells
  simp only at HS HR HP HQ HO HO2 ⊢
  have hj0 := Lib.hid (J.two w #[.int .i64 a, .int .i64 t, .int .i64 l] #[.int .i64 sw, .bool ss, .int .i64 sd] 23 25)
  by_cases hbig : l < -1000000
  · go_enter Try.func3, Try.ntmps3
    go_wp2_with (go_at_call 9; (with_reducible refine (HA.out _).mono ?_); clear HA; rintro e w1 ⟨rfl, h1⟩; have hj1 := Lib.hid (hj0.out.next h1); clear h1 hj0; obtain ⟨a0, a1, a2⟩ := (hj1.out.bx 1 rfl).c3)
    go_ret
    exact ⟨rfl, hj1.out.below⟩
  · have kx : (x == x) = true := by simp
    have ky : (y == y) = true := by simp
    have kz : (z == z) = true := by simp
    have kp : (p == p) = true := by simp
    go_enter Try.func3, Try.ntmps3
    go_wp2_with (first
      | (go_at_call 9; (with_reducible refine (HA.out _).mono ?_); clear HA; rintro e w1 ⟨rfl, h1⟩; have hj1 := Lib.hid (hj0.out.next h1); clear h1 hj0; obtain ⟨a0, a1, a2⟩ := (hj1.out.bx 1 rfl).c3; obtain ⟨b0, b1, b2⟩ := (hj1.out.bx 0 rfl).c3)
      | (go_at_call 10; (with_reducible refine (HS.out _).mono ?_); clear HS a0 a1 a2 b0 b1 b2; rintro e w2 ⟨rfl, h2⟩; have hj2 : Hid (JS w _ _) := Lib.hid ((hj1.out.next h2).push #[.int .i64 x, .int .i64 y, .int .i64 z] 23); clear h2 hj1))
    refine wp_region_all _ JS.closed hj2.out (by kernel_rfl) (by kernel_rfl) ?_
    apply Exists.intro
    refine ⟨fun w3 h3 => ?_, fun W3 hJ3 hb3 => ?_⟩
    · haveI := Ext.some h3
      obtain ⟨q0, q1, q2⟩ := ext3 h3 0 rfl
      obtain ⟨r0, r1, r2⟩ := ext3 h3 1 rfl
      obtain ⟨s0, s1, s2⟩ := ext3 h3 2 rfl
      have cR := Lib.hid (Ext.calls h3 JS.closed (fun W _ => HR.out W))
      have cP := Lib.hid (Ext.calls h3 JS.closed (fun W _ => HP.out W))
      have cQ := Lib.hid (Ext.calls h3 JS.closed (fun W _ => HQ.out W))
      have cO := Lib.hid (Ext.calls h3 JS.closed (fun W _ => HO.out W))
      have cO2 := Lib.hid (Ext.calls h3 JS.closed (fun W _ => HO2.out W))
      repeat go_big_quiet_step (first | (go_at_call 12; with_reducible exact cR.out _) | (go_at_call 13; with_reducible exact cP.out _) | (go_at_call 14; with_reducible exact cQ.out _) | (go_at_call 11; first | with_reducible exact cO.out _ | with_reducible exact cO2.out _))
      exact wpQuiet_nil rfl
    · go_wp2
      go_ret
      exact ⟨rfl, J.below hJ3⟩

end Go.Proofs.Ytfcdfkodafikdaa.Walk
