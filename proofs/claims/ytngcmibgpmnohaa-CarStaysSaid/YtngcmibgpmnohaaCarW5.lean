/- The walk of CarStays. -/
import Derived.Test.YtngcmibgpmnohaaCarE
import Derived.Test.YtngcmibgpmnohaaOpenB
import Derived.LoopN
namespace Go.Proofs.Ytngcmibgpmnohaa.Walk
open Go.RowKit Go.ChangeShapes Go.Proofs.Ytngcmibgpmnohaa.CarP Go.Proofs.Ytngcmibgpmnohaa.Car Go.Proofs.Ytngcmibgpmnohaa.Box Go.Proofs.Ytngcmibgpmnohaa.Held Go.Proofs.Ytngcmibgpmnohaa.Sees Go.Proofs.Ytngcmibgpmnohaa.Open
set_option linter.unusedVariables false

theorem jhead {w W : World} {b : Nat × Array Value} {bs : List (Nat × Array Value)} (h : J w W (b :: bs)) : J w W [b] := h.less fun x hx => by rw [List.mem_singleton.1 hx]; exact List.mem_cons_self
theorem bools_at (l : List Bool) (j : Nat) (h : j < l.length) : (bools l)[j]? = some (.bool (l[j]?.getD false)) := by
  simp [bools, h]

set_option maxRecDepth 100000 in
set_option maxHeartbeats 6400000 in
theorem carStays_walk (w : World) (load floors : Int) (a2 : Option Addr) (len2 cap2 : Nat) (z2 : List Int) (a3 : Option Addr) (len3 cap3 : Nat) (z3 : List Bool) (_w0 : (Lit.int .i64 load).wf = true) (_w1 : (Lit.int .i64 floors).wf = true)
    (hl2 : z2.length = len2) (hc2 : len2 ≤ cap2) (hx2 : cap2 ≤ maxLen) (hs2 : Sees w w.heap.size a2 (nums .i64 z2)) (_hw2 : ∀ n ∈ z2, (Lit.int .i64 n).wf = true)
    (hl3 : z3.length = len3) (hc3 : len3 ≤ cap3) (hx3 : cap3 ≤ maxLen) (hs3 : Sees w w.heap.size a3 (bools z3)) :
    Calls Try.prog 4 #[.int .i64 load, .int .i64 floors, .slice a2 len2 cap2, .slice a3 len3 cap3] w fun e w' => e = .returned (.bool true) ∧ Below w.heap.size w w' := by
  unfold maxLen at hx2 hx3
  have HL2 := Lib.hid hl2
  have HL3 := Lib.hid hl3
  have HS2 := Lib.hid hs2
  have HS3 := Lib.hid hs3
  clear hl2 hl3 hs2 hs3 _w0 _w1 _hw2
  have HA : Hid (∀ W, Calls Try.prog 8 #[] W (Says W (.bool true))) := Lib.hid fun W => awake_any W
  by_cases hbig : 300 < len2
  · go_enter Try.func4, Try.ntmps4
    go_wp2_with (go_at_call 8; refine (HA.out _).mono ?_; rintro e w1 ⟨rfl, h1⟩)
    go_ret
    exact ⟨rfl, h1⟩
  · by_cases hsm : len3 < len2
    · have g1 : ¬ (300 : Int) < (len2 : Int) := by omega
      have g2 : (len3 : Int) < (len2 : Int) := by omega
      go_enter Try.func4, Try.ntmps4
      go_wp2_with (go_at_call 8; refine (HA.out _).mono ?_; rintro e w1 ⟨rfl, h1⟩)
      go_ret
      exact ⟨rfl, h1⟩
    · have g1 : ¬ (300 : Int) < (len2 : Int) := by omega
      have g2 : ¬ (len3 : Int) < (len2 : Int) := by omega
      go_enter Try.func4, Try.ntmps4
      go_wp2_with (go_at_call 8; refine (HA.out _).mono ?_; rintro e w1 ⟨rfl, h1⟩)
      have hj0 := Lib.hid (((J.start w).next h1).push #[.int .i64 0, .int .i64 0, .int .i64 load] 23)
      have hX : w.heap.size ≤ w1.heap.size := h1.size
      have HT : Hid (∀ W, Calls Try.prog 13 #[.int .i64 floors] W (Says W (.int .i64 (tp floors)))) := Lib.hid fun W => says_of_same (Top_any floors W)
      have ht := tp_bd floors
      go_loopw [11] (fun a wr => ∃ (i : Nat) (p v : Int), a = .int .i64 i ∧ i ≤ len2 ∧ -8 ≤ v ∧ v ≤ 8 ∧ 0 ≤ p ∧ p ≤ tp floors ∧ Hid (J w wr [(w1.heap.size, #[.int .i64 p, .int .i64 v, .int .i64 load])])) (fun a _ => len2 - (intOf a).toNat)
      case atStart => exact ⟨0, 0, 0, rfl, by omega, by omega, by omega, by omega, by omega, hj0⟩
      case round =>
        obtain ⟨i, p, v, rfl, hi, v0, v1, p0, p1, hj⟩ := hrel
        by_cases hlt : i < len2
        · obtain ⟨b2, o2, rfl, hb2, hcell2⟩ := HS2.out.at_ (nums_at .i64 z2 i (by rw [HL2.out]; exact hlt))
          obtain ⟨b3, o3, rfl, hb3, hcell3⟩ := HS3.out.at_ (bools_at z3 i (by rw [HL3.out]; omega))
          generalize z2[i]?.getD 0 = vel at *
          generalize z3[i]?.getD false = br at *
          have HC2 := Lib.hid hcell2
          have HC3 := Lib.hid hcell3
          clear hcell2 hcell3
          have i2 : (i : Int) < (len2 : Int) := by omega
          have i3 : (i : Int) < (len3 : Int) := by omega
          have e3 : IntKind.i64.wrap ((i : Int) + 1) = ((i + 1 : Nat) : Int) := by rw [IntWalk.i64_in _ (by omega)]; rfl
          have HS : Hid (∀ W, Calls Try.prog 10 #[.agg #[.int .i64 p, .int .i64 v, .int .i64 load], .int .i64 vel, .bool br, .int .i64 floors] W (Says W (val (tick ⟨p, v, load⟩ vel br floors)))) := Lib.hid fun W => Step_any ⟨p, v, load⟩ ⟨p0, by simp only; omega, v0, v1⟩ vel br floors W
          have hcase : (br = true ∧ tick ⟨p, v, load⟩ vel br floors = ⟨p, 0, load⟩) ∨ (br = false ∧ ∃ rp, tick ⟨p, v, load⟩ vel br floors = ⟨rp, 0, load⟩ ∧ 0 ≤ rp ∧ rp ≤ tp floors) ∨
              (br = false ∧ ∃ rp rv, tick ⟨p, v, load⟩ vel br floors = ⟨rp, rv, load⟩ ∧ 0 ≤ rp ∧ rp ≤ tp floors ∧ -8 ≤ rv ∧ rv ≤ 8 ∧ (rv != 0) = true ∧ rp - p = rv) := by
            cases br with
            | true => exact .inl ⟨rfl, rfl⟩
            | false =>
              right
              have hb := go_bd ⟨p, v, load⟩ vel floors
              have hl := go_l ⟨p, v, load⟩ vel floors
              have hv := go_v ⟨p, v, load⟩ vel floors
              have he : tick ⟨p, v, load⟩ vel false floors = go ⟨p, v, load⟩ vel floors := rfl
              rw [he]
              clear he HS
              generalize go ⟨p, v, load⟩ vel floors = r at *
              obtain ⟨rp, rv, rl⟩ := r
              simp only at hb hl hv
              subst hl
              by_cases hz : rv = 0
              · subst hz
                exact .inl ⟨rfl, rp, rfl, hb.1, hb.2.1⟩
              · exact .inr ⟨rfl, rp, rv, rfl, hb.1, hb.2.1, hb.2.2.1, hb.2.2.2, by simpa using hz, by omega⟩
          have HE : Hid (∀ r : K, ∀ W, Calls Try.prog 10 #[.agg #[.int .i64 p, .int .i64 v, .int .i64 load], .int .i64 vel, .bool br, .int .i64 floors] W (Says W (val (tick ⟨p, v, load⟩ vel br floors))) → tick ⟨p, v, load⟩ vel br floors = r → Calls Try.prog 10 #[.agg #[.int .i64 p, .int .i64 v, .int .i64 load], .int .i64 vel, .bool br, .int .i64 floors] W (Says W (val r))) := Lib.hid fun r W h e => by rw [← e]; exact h
          generalize tp floors = t at *
          have hcase' : (br = true ∧ tick ⟨p, v, load⟩ vel br floors = ⟨p, 0, load⟩) ∨ (br = false ∧ ∃ rp, tick ⟨p, v, load⟩ vel br floors = ⟨rp, 0, load⟩ ∧ 0 ≤ rp ∧ rp ≤ t ∧ decide (rp < 0) = false ∧ decide (t < rp) = false) ∨
              (br = false ∧ ∃ rp rv, tick ⟨p, v, load⟩ vel br floors = ⟨rp, rv, load⟩ ∧ 0 ≤ rp ∧ rp ≤ t ∧ decide (rp < 0) = false ∧ decide (t < rp) = false ∧ -8 ≤ rv ∧ rv ≤ 8 ∧ decide (8 < rv) = false ∧ decide (rv < -8) = false ∧ (rv != 0) = true ∧ IntKind.i64.wrap (rp - p) = rv) := by
            rcases hcase with h | ⟨h0, rp, h2, k1, k2⟩ | ⟨h0, rp, rv, h2, k1, k2, k3, k4, k5, k6⟩
            · exact .inl h
            · exact .inr (.inl ⟨h0, rp, h2, k1, k2, by simp; omega, by simp; omega⟩)
            · exact .inr (.inr ⟨h0, rp, rv, h2, k1, k2, by simp; omega, by simp; omega, k3, k4, by simp; omega, by simp; omega, k5, by rw [IntWalk.i64_in _ (by omega)]; exact k6⟩)
          clear hcase
          rcases hcase' with ⟨rfl, h2⟩ | ⟨rfl, rp, h2, k1, k2, k3, k4⟩ | ⟨rfl, rp, rv, h2, k1, k2, k3, k4, k5, k6, k7, k8, k9, k10⟩
          all_goals
            have dd1 : decide (p < 0) = false := by simp; omega
            have dd2 : decide (t < p) = false := by simp; omega
            have HR := Lib.hid fun W => HE.out _ W (HS.out W) h2
            clear HE HS h2
            unfold val at HR
            simp only at HR
            obtain ⟨a0, a1, a2⟩ := (hj.out.bx 0 rfl).c3
            have hjA : Hid (JS w [(w1.heap.size, #[.int .i64 p, .int .i64 v, .int .i64 load]), (wr.heap.size, #[.int .i64 p, .int .i64 v, .int .i64 load])] (wr.alloc (.cells #[.int .i64 p, .int .i64 v, .int .i64 load] 23))) :=
              Lib.hid ((hj.out.push #[.int .i64 p, .int .i64 v, .int .i64 load] 23).less (fun x hx => by simp only [List.mem_cons] at hx ⊢; rcases hx with h | h | h; (· exact .inr (.inl h)); (· exact .inl h); (· exact .inr (.inr h))))
            have hneX : ∀ x ∈ [(wr.heap.size, (#[.int .i64 p, .int .i64 v, .int .i64 load] : Array Value))], x.1 ≠ w1.heap.size := fun x hx => by
              simp at hx; subst hx; have := (hj.out.bx 0 rfl).lt; simp only; omega
            clear hj
            go_wp2
            refine wp_region_tail 11 _ JS.closed hjA.out (by kernel_rfl) (by kernel_rfl) ?_
            simp only [List.take_succ_cons, List.take_zero, List.drop_succ_cons, List.drop_zero]
            apply Exists.intro
            refine ⟨fun w3 h3 => ?_, fun W3 hJ3 hz3 => ?_⟩
            · haveI := Ext.some h3
              obtain ⟨q0, q1, q2⟩ := ext3 h3 0 rfl
              have m2 := ext_old h3 (a := ⟨b2, o2 + i, none⟩) hb2 HC2.out
              have m3 := ext_old h3 (a := ⟨b3, o3 + i, none⟩) hb3 HC3.out
              have c1 := Lib.hid (Ext.calls h3 JS.closed (fun W _ => HR.out W))
              repeat go_big_quiet_step (first | (go_at_call 10; with_reducible exact c1.out _))
              exact wpQuiet_nil rfl
            · obtain ⟨b0, b1, b2⟩ := (hJ3.bx 0 rfl).c3
              obtain ⟨f0, f1, f2⟩ := (hJ3.bx 0 rfl).f3
              change wpList _ _ _ _ _ _
              go_wp2
              refine wp_region_all (JS w _) JS.closed (J.fill3 hJ3 hX hneX) (by kernel_rfl) (by kernel_rfl) ?_
              apply Exists.intro
              refine ⟨fun w4 h4 => ?_, fun W4 hJ4 hz4 => ?_⟩
              · haveI := Ext.some h4
                obtain ⟨q0, q1, q2⟩ := ext3 h4 0 rfl
                obtain ⟨q3, q4, q5⟩ := ext3 h4 1 rfl
                have m3 := ext_old h4 (a := ⟨b3, o3 + i, none⟩) hb3 HC3.out
                have c1 := Lib.hid (Ext.calls h4 JS.closed (fun W _ => HT.out W))
                repeat go_big_quiet_step (first | (go_at_call 13; with_reducible exact c1.out _))
                exact wpQuiet_nil rfl
              · clear b0 b1 b2 f0 f1 f2 a0 a1 a2
                obtain ⟨b0, b1, b2⟩ := (hJ4.bx 0 rfl).c3
                obtain ⟨a0, a1, a2⟩ := (hJ4.bx 1 rfl).c3
                go_wp2
                go_roundw
                case rel => exact ⟨i + 1, _, _, rfl, by omega, by omega, by omega, by omega, by omega, Lib.hid (jhead hJ4)⟩
                case measure => simp [intOf]; omega
        · obtain rfl : i = len2 := by omega
          go_wp2
          go_ret
          exact ⟨rfl, hj.out.below⟩

end Go.Proofs.Ytngcmibgpmnohaa.Walk
