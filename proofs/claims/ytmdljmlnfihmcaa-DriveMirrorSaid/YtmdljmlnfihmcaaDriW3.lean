/- The walk of DriveMirror. -/
import Derived.Test.YtmdljmlnfihmcaaDriB
import Derived.Test.YtmdljmlnfihmcaaHeld
import Derived.OpenShut
namespace Go.Proofs.Ytmdljmlnfihmcaa.Walk
open Go.RowKit Go.ChangeShapes Go.Proofs.Ytmdljmlnfihmcaa.CarP Go.Proofs.Ytmdljmlnfihmcaa.DriP Go.Proofs.Ytmdljmlnfihmcaa.Dri Go.Proofs.Ytmdljmlnfihmcaa.Box Go.Proofs.Ytmdljmlnfihmcaa.Held
set_option linter.unusedVariables false

/-- two blocks one behind the other -/
theorem jpush2 {w W : World} {bs : List (Nat × Array Value)} (h : J w W bs) (cs cs' : Array Value) (t t' : TypeId) : J w ((W.alloc (.cells cs t)).alloc (.cells cs' t')) ((W.heap.size + 1, cs') :: (W.heap.size, cs) :: bs) := by
  have := (h.push cs t).push cs' t'
  rwa [World.size_alloc] at this

set_option maxRecDepth 100000 in
set_option maxHeartbeats 6400000 in
theorem driveMirror_walk (w : World) (po v a b : Int) (w0 : (Lit.int .u8 po).wf = true) (wv : (Lit.int .i64 v).wf = true) (w1 : (Lit.int .u8 a).wf = true) (w2 : (Lit.int .u8 b).wf = true) :
    Calls Try.prog 6 #[.int .u8 po, .int .i64 v, .int .u8 a, .int .u8 b] w fun e w' => e = .returned (.bool true) ∧ Below w.heap.size w w' := by
  have hp := bounds_u8 w0
  have ha := bounds_u8 w1
  have hb := bounds_u8 w2
  clear w0 w1 w2 wv
  obtain ⟨p, h_p⟩ : ∃ n, po % 249 = n := ⟨_, rfl⟩
  have rp : po.tmod 249 = p := by rw [Int.tmod_eq_emod_of_nonneg (by omega)]; exact h_p
  have up : IntKind.u8.wrap p = p := IntWalk.u8_in _ (by omega)
  have iwp : IntKind.i64.wrap p = p := IntWalk.i64_in _ (by omega)
  obtain ⟨f, h_f⟩ : ∃ n, a % 32 = n := ⟨_, rfl⟩
  have rf : a.tmod 32 = f := by rw [Int.tmod_eq_emod_of_nonneg (by omega)]; exact h_f
  have uf : IntKind.u8.wrap f = f := IntWalk.u8_in _ (by omega)
  have iwf : IntKind.i64.wrap f = f := IntWalk.i64_in _ (by omega)
  obtain ⟨n, h_n⟩ : ∃ n, b % 8 = n := ⟨_, rfl⟩
  have rn : b.tmod 8 = n := by rw [Int.tmod_eq_emod_of_nonneg (by omega)]; exact h_n
  have un : IntKind.u8.wrap n = n := IntWalk.u8_in _ (by omega)
  have iwn : IntKind.i64.wrap n = n := IntWalk.i64_in _ (by omega)
  obtain ⟨m, hm⟩ : ∃ m, n + 1 = m := ⟨_, rfl⟩
  have im : IntKind.i64.wrap (n + 1) = m := by rw [hm]; exact IntWalk.i64_in _ (by omega)
  have p0 : 0 ≤ p ∧ p ≤ 248 := by omega
  have f0 : 0 ≤ f ∧ f ≤ 31 := by omega
  obtain ⟨p', hp'⟩ : ∃ p', 248 - p = p' := ⟨_, rfl⟩
  obtain ⟨f', hf'⟩ : ∃ f', 31 - f = f' := ⟨_, rfl⟩
  have ip' : IntKind.i64.wrap (248 - p) = p' := by rw [← hp']; exact IntWalk.i64_in _ (by omega)
  have iwf' : IntKind.i64.wrap (31 - f) = f' := by rw [← hf']; exact IntWalk.i64_in _ (by omega)
  have HA : Hid (∀ W, Calls Try.prog 8 #[] W (Says W (.bool true))) := Lib.hid fun W => awake_any W
  have HF : Hid (Fl f) := Lib.hid ⟨by omega, by omega⟩
  have HF' : Hid (Fl f') := Lib.hid ⟨by omega, by omega⟩
  clear hp ha hb h_n hm
  by_cases k1 : v < -8
  · go_enter Try.func6, Try.ntmps6
    go_wp2_with (go_at_call 8; refine (HA.out _).mono ?_; clear HA; rintro e w1 ⟨rfl, h1⟩)
    go_ret
    exact ⟨rfl, h1⟩
  by_cases k2 : 8 < v
  · go_enter Try.func6, Try.ntmps6
    go_wp2_with (go_at_call 8; refine (HA.out _).mono ?_; clear HA; rintro e w1 ⟨rfl, h1⟩)
    go_ret
    exact ⟨rfl, h1⟩
  obtain ⟨v', hv'⟩ : ∃ v', -v = v' := ⟨_, rfl⟩
  have iv' : IntKind.i64.wrap (-v) = v' := by rw [← hv']; exact IntWalk.i64_in _ (by omega)
  have HV1 : Hid (∀ W, Calls Try.prog 10 #[.agg #[.int .i64 p, .int .i64 v, .int .i64 0], .int .i64 f, .int .i64 m, .bool true] W (Says W (.tuple #[.int .i64 (vl ⟨p, v, 0⟩ f m true), .bool (br ⟨p, v, 0⟩ f m true)]))) :=
    Lib.hid fun W => Vel_any ⟨p, v, 0⟩ p0.1 (show p ≤ 1000000 by omega) (show -8 ≤ v by omega) (show v ≤ 8 by omega) f HF.out m true W
  have HV2 : Hid (∀ W, Calls Try.prog 10 #[.agg #[.int .i64 p', .int .i64 v', .int .i64 0], .int .i64 f', .int .i64 m, .bool true] W (Says W (.tuple #[.int .i64 (vl ⟨p', v', 0⟩ f' m true), .bool (br ⟨p', v', 0⟩ f' m true)]))) :=
    Lib.hid fun W => Vel_any ⟨p', v', 0⟩ (show 0 ≤ p' by omega) (show p' ≤ 1000000 by omega) (show -8 ≤ v' by omega) (show v' ≤ 8 by omega) f' HF'.out m true W
  have HY1 : Hid (∀ W, Calls Try.prog 15 #[.agg #[.int .i64 p, .int .i64 v, .int .i64 0], .int .i64 f] W (Says W (.int .i64 (sg (wy ⟨p, v, 0⟩ f))))) := Lib.hid fun W => Way_any ⟨p, v, 0⟩ p0.1 (show p ≤ 1000000 by omega) f HF.out W
  have HY2 : Hid (∀ W, Calls Try.prog 15 #[.agg #[.int .i64 p', .int .i64 v', .int .i64 0], .int .i64 f'] W (Says W (.int .i64 (sg (wy ⟨p', v', 0⟩ f'))))) := Lib.hid fun W => Way_any ⟨p', v', 0⟩ (show 0 ≤ p' by omega) (show p' ≤ 1000000 by omega) f' HF'.out W
  have HT1 : Hid (∀ W, Calls Try.prog 17 #[.agg #[.int .i64 p, .int .i64 v, .int .i64 0], .int .i64 f] W (Says W (.bool (th ⟨p, v, 0⟩ f)))) := Lib.hid fun W => There_any ⟨p, v, 0⟩ p0.1 (show p ≤ 1000000 by omega) f HF.out W
  have HT2 : Hid (∀ W, Calls Try.prog 17 #[.agg #[.int .i64 p', .int .i64 v', .int .i64 0], .int .i64 f'] W (Says W (.bool (th ⟨p', v', 0⟩ f')))) := Lib.hid fun W => There_any ⟨p', v', 0⟩ (show 0 ≤ p' by omega) (show p' ≤ 1000000 by omega) f' HF'.out W
  have hvb := vl_bd (c := ⟨p, v, 0⟩) (show -8 ≤ v by omega) (show v ≤ 8 by omega) f m true
  have hvb' := vl_bd (c := ⟨p', v', 0⟩) (show -8 ≤ v' by omega) (show v' ≤ 8 by omega) f' m true
  have HW1 : Hid (∀ W, Calls Try.prog 13 #[.agg #[.int .i64 p, .int .i64 v, .int .i64 0], .int .i64 (vl ⟨p, v, 0⟩ f m true), .bool (br ⟨p, v, 0⟩ f m true)] W (Says W (.int .i64 (wt v (vl ⟨p, v, 0⟩ f m true) (br ⟨p, v, 0⟩ f m true))))) :=
    Lib.hid fun W => What_any ⟨p, v, 0⟩ (show -8 ≤ v by omega) (show v ≤ 8 by omega) _ ⟨by omega, by omega⟩ _ W
  have HW2 : Hid (∀ W, Calls Try.prog 13 #[.agg #[.int .i64 p', .int .i64 v', .int .i64 0], .int .i64 (vl ⟨p', v', 0⟩ f' m true), .bool (br ⟨p', v', 0⟩ f' m true)] W (Says W (.int .i64 (wt v' (vl ⟨p', v', 0⟩ f' m true) (br ⟨p', v', 0⟩ f' m true))))) :=
    Lib.hid fun W => What_any ⟨p', v', 0⟩ (show -8 ≤ v' by omega) (show v' ≤ 8 by omega) _ ⟨by omega, by omega⟩ _ W
  obtain ⟨m1, m2, m3, m4⟩ := mirror (c := ⟨p, v, 0⟩) (d := ⟨p', v', 0⟩) (f := f) (g := f') (show v' = -v by omega) (show f' * 8 - p' = -(f * 8 - p) by omega) m
  have hs := sg_3 (wy ⟨p', v', 0⟩ f')
  have hw : wt v (vl ⟨p, v, 0⟩ f m true) (br ⟨p, v, 0⟩ f m true) = wt v' (vl ⟨p', v', 0⟩ f' m true) (br ⟨p', v', 0⟩ f' m true) := by
    rw [m1, m2, show v = -v' by omega]; exact wt_neg _ _ _
  rw [hw] at HW1
  rw [m1, m2] at HV1 HW1
  rw [m3] at HY1
  rw [m4] at HT1
  generalize vl ⟨p', v', 0⟩ f' m true = V at *
  generalize br ⟨p', v', 0⟩ f' m true = B at *
  generalize sg (wy ⟨p', v', 0⟩ f') = s at *
  generalize th ⟨p', v', 0⟩ f' = T at *
  generalize wt v' V B = r at *
  obtain ⟨V1, hV1⟩ : ∃ V1, -V = V1 := ⟨_, rfl⟩
  obtain ⟨s1, hs1⟩ : ∃ s1, -s = s1 := ⟨_, rfl⟩
  have iV : IntKind.i64.wrap (-V) = V1 := by rw [← hV1]; exact IntWalk.i64_in _ (by omega)
  have is' : IntKind.i64.wrap (-s) = s1 := by rw [← hs1]; exact IntWalk.i64_in _ (by omega)
  rw [hV1] at HV1 HW1
  rw [hs1] at HY1
  have z1 : (V1 == V1) = true := by simp
  have z2 : (B == B) = true := by simp
  have z3 : (s1 == s1) = true := by simp
  have z4 : (T == T) = true := by simp
  have z5 : (r == r) = true := by simp
  clear m1 m2 m3 m4 hs hw hvb hvb' hV1 hs1 hv' hp' hf' h_f h_p p0 f0 HF HF'
  go_enter Try.func6, Try.ntmps6
  go_wp2_with (first
    | (go_at_call 8; refine (HA.out _).mono ?_; clear HA; rintro e w1 ⟨rfl, h1⟩; have hj1 := Lib.hid (((J.start w).next h1).push #[.int .i64 p, .int .i64 v, .int .i64 0] 23); have hj2' := Lib.hid (jpush2 ((J.start w).next h1) #[.int .i64 p, .int .i64 v, .int .i64 0] #[.int .i64 p', .int .i64 v', .int .i64 0] 23 23); clear h1; obtain ⟨a0, a1, a2⟩ := (hj1.out.bx 0 rfl).c3; obtain ⟨b0, b1, b2⟩ := (hj2'.out.bx 0 rfl).c3; obtain ⟨c0, c1, c2⟩ := (hj2'.out.bx 1 rfl).c3; clear hj1)
    | (go_at_call 10; (with_reducible refine (HV1.out _).mono ?_); clear HV1 a0 a1 a2 b0 b1 b2 c0 c1 c2; rintro e w3 ⟨rfl, h3⟩; have hj3 := Lib.hid (hj2'.out.next h3); clear h3 hj2'; obtain ⟨a0, a1, a2⟩ := (hj3.out.bx 0 rfl).c3)
    | (go_at_call 10; (with_reducible refine (HV2.out _).mono ?_); clear HV2 a0 a1 a2; rintro e w4 ⟨rfl, h4⟩; have hj4 : Hid (JS w _ _) := Lib.hid (hj3.out.next h4); clear h4 hj3))
  refine wp_region_all _ JS.closed hj4.out (by kernel_rfl) (by kernel_rfl) ?_
  apply Exists.intro
  refine ⟨fun w6 h6 => ?_, fun W6 hJ6 hb6 => ?_⟩
  · haveI := Ext.some h6
    obtain ⟨q0, q1, q2⟩ := ext3 h6 0 rfl
    obtain ⟨q3, q4, q5⟩ := ext3 h6 1 rfl
    have cY1 := Lib.hid (Ext.calls h6 JS.closed (fun W _ => HY1.out W))
    have cY2 := Lib.hid (Ext.calls h6 JS.closed (fun W _ => HY2.out W))
    have cT1 := Lib.hid (Ext.calls h6 JS.closed (fun W _ => HT1.out W))
    have cT2 := Lib.hid (Ext.calls h6 JS.closed (fun W _ => HT2.out W))
    have cW1 := Lib.hid (Ext.calls h6 JS.closed (fun W _ => HW1.out W))
    have cW2 := Lib.hid (Ext.calls h6 JS.closed (fun W _ => HW2.out W))
    repeat go_big_quiet_step (first | (go_at_call 15; with_reducible exact cY1.out _) | (go_at_call 15; with_reducible exact cY2.out _) | (go_at_call 17; with_reducible exact cT1.out _) | (go_at_call 17; with_reducible exact cT2.out _) | (go_at_call 13; with_reducible exact cW1.out _) | (go_at_call 13; with_reducible exact cW2.out _))
    exact wpQuiet_nil rfl
  · go_wp2
    go_ret
    exact ⟨rfl, J.below hJ6⟩

end Go.Proofs.Ytmdljmlnfihmcaa.Walk
