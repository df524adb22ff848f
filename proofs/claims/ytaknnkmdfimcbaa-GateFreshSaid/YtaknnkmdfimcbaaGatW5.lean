/- The walk of GateFresh. -/
import Derived.Test.YtaknnkmdfimcbaaGatB
import Derived.Test.YtaknnkmdfimcbaaGatO
import Derived.OpenShut
import Derived.LoopN
namespace Go.Proofs.Ytaknnkmdfimcbaa.Walk
open Go.RowKit Go.ChangeShapes Go.Proofs.Ytaknnkmdfimcbaa.CarP Go.Proofs.Ytaknnkmdfimcbaa.LefP Go.Proofs.Ytaknnkmdfimcbaa.LokP Go.Proofs.Ytaknnkmdfimcbaa.GatP Go.Proofs.Ytaknnkmdfimcbaa.Gat Go.Proofs.Ytaknnkmdfimcbaa.Box Go.Proofs.Ytaknnkmdfimcbaa.Held Go.Proofs.Ytaknnkmdfimcbaa.Sees Go.Proofs.Ytaknnkmdfimcbaa.Open
set_option linter.unusedVariables false

set_option maxRecDepth 100000 in
set_option maxHeartbeats 6400000 in
theorem gateFresh_walk (w : World) (a0 : Option Addr) (len0 cap0 : Nat) (z0 : List Leaf0) (dl : Int)
    (hl0 : z0.length = len0) (hc0 : len0 ≤ cap0) (hx0 : cap0 ≤ maxLen) (hs0 : Sees w w.heap.size a0 (leaf0s z0)) (w1 : (Lit.int .u8 dl).wf = true) :
    Calls Try.prog 7 #[.slice a0 len0 cap0, .int .u8 dl] w fun e w' => e = .returned (.bool true) ∧ Below w.heap.size w w' := by
  have hdl := bounds_u8 w1
  unfold maxLen at hx0
  have HL0 := Lib.hid hl0
  have HS0 := Lib.hid hs0
  clear w1 hl0 hs0
  have HA : Hid (∀ W, Calls Try.prog 8 #[] W (Says W (.bool true))) := Lib.hid fun W => awake_any W
  by_cases hbig : 100 < len0
  · go_enter Try.func7, Try.ntmps7
    go_wp2_with (go_at_call 8; refine (HA.out _).mono ?_; rintro e w1 ⟨rfl, h1⟩)
    go_ret
    exact ⟨rfl, h1⟩
  · have g1 : ¬ (100 : Int) < (len0 : Int) := by omega
    obtain ⟨d, hd⟩ : ∃ d, dl % 201 = d := ⟨_, rfl⟩
    have t6 : dl.tmod 201 = d := by rw [Int.tmod_eq_emod_of_nonneg (by omega)]; exact hd
    have t7 : IntKind.u8.wrap d = d := IntWalk.u8_in _ (by omega)
    have t8 : IntKind.i64.wrap d = d := IntWalk.i64_in _ (by omega)
    have d0 : 0 ≤ d := by omega
    have d1 : d ≤ 200 := by omega
    clear hd hdl
    go_enter Try.func7, Try.ntmps7
    go_wp2_with (go_at_call 8; (with_reducible refine (HA.out _).mono ?_); clear HA; rintro e w1 ⟨rfl, h1⟩)
    have hj0 := Lib.hid (((J.start w).next h1).push #[.int .i64 0, .int .i64 0] 27)
    have hX : w.heap.size ≤ w1.heap.size := h1.size
    clear h1
    go_loopw [8] (fun a wr => ∃ (i j : Nat) (x : Int), a = .int .i64 i ∧ Hid (i = j + 1) ∧ 0 ≤ x ∧ x ≤ d ∧ Hid (J w wr [(w1.heap.size, #[.int .i64 x, .int .i64 0])])) (fun a _ => len0 - (intOf a).toNat)
    case atStart => exact ⟨1, 0, 0, rfl, Lib.hid rfl, by omega, by omega, hj0⟩
    case round =>
      clear hj0
      obtain ⟨i, j, x, rfl, hij, x0, x1, hj⟩ := hrel
      by_cases hlt : i < len0
      · have hiz : i < z0.length := by rw [HL0.out]; exact hlt
        have hjl : j < len0 := by have := hij.out; omega
        have hjz : j < z0.length := by rw [HL0.out]; exact hjl
        obtain ⟨b1, p1, rfl, hb1, k0, k1⟩ := leaf0_cells HS0.out i z0[i] (List.getElem?_eq_getElem hiz)
        obtain ⟨b2, p2, hbp, hb2, k2, k3⟩ := leaf0_cells HS0.out j z0[j] (List.getElem?_eq_getElem hjz)
        injection hbp with hbp
        injection hbp with hbp1 hbp2
        subst hbp1 hbp2
        generalize z0[i] = li at k0 k1
        generalize z0[j] = lj at k2 k3
        obtain ⟨oi, di⟩ := li
        obtain ⟨oj, dj⟩ := lj
        simp only at k0 k1 k2 k3
        have K0 := Lib.hid k0
        have K1 := Lib.hid k1
        have K2 := Lib.hid k2
        have K3 := Lib.hid k3
        clear k0 k1 k2 k3 hiz hjz
        have i1 : (i : Int) < (len0 : Int) := by omega
        have j1 : (j : Int) < (len0 : Int) := by omega
        have e1 : IntKind.i64.wrap ((i : Int) - 1) = (j : Int) := by have := hij.out; rw [IntWalk.i64_in _ (by omega)]; omega
        have e3 : IntKind.i64.wrap ((i : Int) + 1) = ((i + 1 : Nat) : Int) := by rw [IntWalk.i64_in _ (by omega)]; rfl
        have ways : (decide (di < 1) = true) ∨ (decide (di < 1) = false ∧ decide (16 < di) = true) ∨ (decide (di < 1) = false ∧ decide (16 < di) = false ∧ decide (oi < 0) = true) ∨ (decide (di < 1) = false ∧ decide (16 < di) = false ∧ decide (oi < 0) = false ∧ decide (di < oi) = true) ∨ (decide (di < 1) = false ∧ decide (16 < di) = false ∧ decide (oi < 0) = false ∧ decide (di < oi) = false ∧ decide (oj < 0) = true) ∨ (decide (di < 1) = false ∧ decide (16 < di) = false ∧ decide (oi < 0) = false ∧ decide (di < oi) = false ∧ decide (oj < 0) = false ∧ decide (dj < 1) = true) ∨ (decide (di < 1) = false ∧ decide (16 < di) = false ∧ decide (oi < 0) = false ∧ decide (di < oi) = false ∧ decide (oj < 0) = false ∧ decide (dj < 1) = false ∧ decide (16 < dj) = true) ∨ (decide (di < 1) = false ∧ decide (16 < di) = false ∧ decide (oi < 0) = false ∧ decide (di < oi) = false ∧ decide (oj < 0) = false ∧ decide (dj < 1) = false ∧ decide (16 < dj) = false ∧ decide (dj < oj) = true) ∨ (decide (di < 1) = false ∧ decide (16 < di) = false ∧ decide (oi < 0) = false ∧ decide (di < oi) = false ∧ decide (oj < 0) = false ∧ decide (dj < 1) = false ∧ decide (16 < dj) = false ∧ decide (dj < oj) = false) := by
          simp only [decide_eq_true_eq, decide_eq_false_iff_not]; omega
        have hjl : Hid (JS w [(w1.heap.size, #[.int .i64 x, .int .i64 0])] wr) := hj
        clear hj
        rcases ways with k1 | ⟨k1, k2⟩ | ⟨k1, k2, k3⟩ | ⟨k1, k2, k3, k4⟩ | ⟨k1, k2, k3, k4, k5⟩ | ⟨k1, k2, k3, k4, k5, k6⟩ | ⟨k1, k2, k3, k4, k5, k6, k7⟩ | ⟨k1, k2, k3, k4, k5, k6, k7, k8⟩ | ⟨k1, k2, k3, k4, k5, k6, k7, k8⟩
        iterate 8
          · go_wp2
            refine wp_region_all _ JS.closed hjl.out (by kernel_rfl) (by kernel_rfl) ?_
            apply Exists.intro
            refine ⟨fun w2 h2 => ?_, fun W2 hJ2 hb2 => ?_⟩
            · haveI := Ext.some h2
              have m0 := ext_old h2 (a := ⟨b1, p1 + i * 2, none⟩) hb1 K0.out
              have m1 := ext_old h2 (a := ⟨b1, p1 + i * 2 + 1, none⟩) hb1 K1.out
              have m2 := ext_old h2 (a := ⟨b1, p1 + j * 2, none⟩) hb1 K2.out
              have m3 := ext_old h2 (a := ⟨b1, p1 + j * 2 + 1, none⟩) hb1 K3.out
              repeat go_big_quiet_step (fail)
              exact wpQuiet_nil rfl
            · go_wp2
              go_ret
              exact ⟨rfl, J.below hJ2⟩
        go_wp2
        refine wp_region_all _ JS.closed hjl.out (by kernel_rfl) (by kernel_rfl) ?_
        apply Exists.intro
        refine ⟨fun w2 h2 => ?_, fun W2 hJ2 hb2 => ?_⟩
        · haveI := Ext.some h2
          have m0 := ext_old h2 (a := ⟨b1, p1 + i * 2, none⟩) hb1 K0.out
          have m1 := ext_old h2 (a := ⟨b1, p1 + i * 2 + 1, none⟩) hb1 K1.out
          have m2 := ext_old h2 (a := ⟨b1, p1 + j * 2, none⟩) hb1 K2.out
          have m3 := ext_old h2 (a := ⟨b1, p1 + j * 2 + 1, none⟩) hb1 K3.out
          repeat go_big_quiet_step (fail)
          exact wpQuiet_nil rfl
        clear k1 k2 k3 k4 k5 k6 k7 k8
        have hjl2 : Hid (JS w [(w1.heap.size, #[.int .i64 x, .int .i64 0])] W2) := Lib.hid hJ2
        clear hJ2 hjl
        have HWi : Hid (∀ W, Calls Try.prog 16 #[.agg #[.int .i64 oi, .int .i64 di]] W (Says W (.bool (wd ⟨oi, di⟩)))) := Lib.hid fun W => Lef.Wide_any ⟨oi, di⟩ W
        have HWj : Hid (∀ W, Calls Try.prog 16 #[.agg #[.int .i64 oj, .int .i64 dj]] W (Says W (.bool (wd ⟨oj, dj⟩)))) := Lib.hid fun W => Lef.Wide_any ⟨oj, dj⟩ W
        have hsh : (if sh ⟨oi, di⟩ then (0 : Int) else 0) = 0 := by split <;> rfl
        have HS : Hid (∀ W, Calls Try.prog 10 #[.agg #[.int .i64 x, .int .i64 0], .agg #[.int .i64 oj, .int .i64 dj], .agg #[.int .i64 oi, .int .i64 di], .int .i64 d] W (Says W (.agg #[.int .i64 (ws x (wd ⟨oj, dj⟩) (wd ⟨oi, di⟩) d), .int .i64 0]))) := Lib.hid fun W => by
          have := Step_any ⟨x, 0⟩ x0 (show x ≤ 200 by omega) ⟨oj, dj⟩ ⟨oi, di⟩ d W
          unfold gs at this
          simp only at this
          rw [hsh] at this
          exact this
        have HR : Hid (wd ⟨oi, di⟩ = false → ∀ y W, Calls Try.prog 13 #[.agg #[.int .i64 y, .int .i64 0], .agg #[.int .i64 oi, .int .i64 di]] W (Says W (.bool true))) := Lib.hid fun h y W => by
          have := Ready_any ⟨y, 0⟩ ⟨oi, di⟩ W
          unfold rd at this
          rw [h] at this
          exact this
        have hy : 0 ≤ ws x (wd ⟨oj, dj⟩) (wd ⟨oi, di⟩) d ∧ ws x (wd ⟨oj, dj⟩) (wd ⟨oi, di⟩) d ≤ d := by
          unfold ws; cases wd ⟨oj, dj⟩ <;> cases wd ⟨oi, di⟩ <;> simp <;> omega
        have ways2 : (wd ⟨oi, di⟩ = false ∧ (ws x (wd ⟨oj, dj⟩) (wd ⟨oi, di⟩) d != 0) = false) ∨ (wd ⟨oi, di⟩ = true ∧ wd ⟨oj, dj⟩ = true) ∨ (wd ⟨oi, di⟩ = true ∧ wd ⟨oj, dj⟩ = false ∧ (ws x (wd ⟨oj, dj⟩) (wd ⟨oi, di⟩) d != d) = false) := by
          unfold ws; cases wd ⟨oj, dj⟩ <;> cases wd ⟨oi, di⟩ <;> simp
        have y2 : decide (d < ws x (wd ⟨oj, dj⟩) (wd ⟨oi, di⟩) d) = false := by simp; omega
        clear hsh
        generalize ws x (wd ⟨oj, dj⟩) (wd ⟨oi, di⟩) d = y at *
        generalize wd ⟨oi, di⟩ = zi at *
        generalize wd ⟨oj, dj⟩ = zj at *
        obtain ⟨y0, y1⟩ := hy
        rcases ways2 with ⟨rfl, k1⟩ | ⟨rfl, rfl⟩ | ⟨rfl, rfl, k1⟩
        all_goals
          go_wp2
          refine wp_region_tail 12 _ JS.closed hjl2.out (by kernel_rfl) (by kernel_rfl) ?_
          simp only [List.take_succ_cons, List.take_zero, List.drop_succ_cons, List.drop_zero]
          apply Exists.intro
          refine ⟨fun w3 h3 => ?_, fun W3 hJ3 hb3 => ?_⟩
          · haveI := Ext.some h3
            obtain ⟨q0, q1⟩ := ext2 h3 0 rfl
            have m0 := ext_old h3 (a := ⟨b1, p1 + i * 2, none⟩) hb1 K0.out
            have m1 := ext_old h3 (a := ⟨b1, p1 + i * 2 + 1, none⟩) hb1 K1.out
            have m2 := ext_old h3 (a := ⟨b1, p1 + j * 2, none⟩) hb1 K2.out
            have m3 := ext_old h3 (a := ⟨b1, p1 + j * 2 + 1, none⟩) hb1 K3.out
            have cS := Lib.hid (Ext.calls h3 JS.closed (fun W _ => HS.out W))
            repeat go_big_quiet_step (first | (go_at_call 10; with_reducible exact cS.out _))
            exact wpQuiet_nil rfl
          · obtain ⟨f0, f1⟩ := (hJ3.bx 0 rfl).f2
            obtain ⟨c0, c1⟩ := (hJ3.bx 0 rfl).c2
            have hj6 : Hid (JS w _ _) := Lib.hid (Lef.jfill2 hJ3 (x := .int .i64 y) (y := .int .i64 0) hX (fun x hx => by cases hx))
            change wpList _ _ _ _ _ _
            go_wp2
            refine wp_region_all _ JS.closed hj6.out (by kernel_rfl) (by kernel_rfl) ?_
            apply Exists.intro
            refine ⟨fun w9 h9 => ?_, fun W9 hJ9 hb9 => ?_⟩
            · haveI := Ext.some h9
              obtain ⟨q0, q1⟩ := ext2 h9 0 rfl
              have m0 := ext_old h9 (a := ⟨b1, p1 + i * 2, none⟩) hb1 K0.out
              have m1 := ext_old h9 (a := ⟨b1, p1 + i * 2 + 1, none⟩) hb1 K1.out
              have m2 := ext_old h9 (a := ⟨b1, p1 + j * 2, none⟩) hb1 K2.out
              have m3 := ext_old h9 (a := ⟨b1, p1 + j * 2 + 1, none⟩) hb1 K3.out
              have cI := Lib.hid (Ext.calls h9 JS.closed (fun W _ => HWi.out W))
              have cJ := Lib.hid (Ext.calls h9 JS.closed (fun W _ => HWj.out W))
              try have cR := Lib.hid (Ext.calls h9 JS.closed (fun W _ => HR.out trivial y W))
              repeat go_big_quiet_step (first | (go_at_call 16; with_reducible exact cI.out _) | (go_at_call 16; with_reducible exact cJ.out _) | (go_at_call 13; with_reducible exact cR.out _))
              exact wpQuiet_nil rfl
            · go_wp2
              go_roundw
              case rel => exact ⟨i + 1, i, y, rfl, Lib.hid rfl, y0, y1, Lib.hid hJ9⟩
              case measure => simp [intOf]; omega
      · have i1 : ¬ (i : Int) < (len0 : Int) := by omega
        go_wp2
        go_ret
        exact ⟨rfl, hj.out.below⟩

end Go.Proofs.Ytaknnkmdfimcbaa.Walk
