/- The walk of FeedDead. -/
import Derived.Test.YtfcdfkodafikdaaFedC
import Derived.Test.YtfcdfkodafikdaaOpen
import Derived.OpenShut
import Derived.LoopN
import Derived.Laws.StructEq
namespace Go.Proofs.Ytfcdfkodafikdaa.Walk
open Go.RowKit Go.ChangeShapes Go.Proofs.Ytfcdfkodafikdaa.FedP Go.Proofs.Ytfcdfkodafikdaa.Fed Go.Proofs.Ytfcdfkodafikdaa.Box Go.Proofs.Ytfcdfkodafikdaa.Held Go.Proofs.Ytfcdfkodafikdaa.Sees Go.Proofs.Ytfcdfkodafikdaa.Open
set_option linter.unusedVariables false

theorem jput3 {w W : World} {X : Nat} {a b c x y z : Value} (h : J w W [(X, #[a, b, c])]) (hX : w.heap.size ≤ X) : J w (((W.setCell ⟨X, 0, none⟩ x).setCell ⟨X, 1, none⟩ y).setCell ⟨X, 2, none⟩ z) [(X, #[x, y, z])] := h.put3 hX
/-- between places, D ticks in all, i of them gone -/
def dn (to : Int) (D i : Nat) : F := if i < D then ⟨0, to, (D : Int) - i⟩ else ⟨to, 0, 0⟩
theorem dn_st (to : Int) (hto : src to = true) (D i : Nat) (h : i < D) (want : Int) (s : Bool) (d : Int) : st (dn to D i) want s d = dn to D (i + 1) := by
  unfold dn
  rw [if_pos h]
  unfold st
  have h0 : src (⟨0, to, (D : Int) - i⟩ : F).a = false := rfl
  rw [if_neg (by rw [h0]; decide)]
  unfold nr
  simp only
  by_cases k : i + 1 < D
  · rw [if_pos (by omega), if_pos k]
    congr 1
    omega
  · rw [if_neg (by omega), if_neg k, if_pos hto]

theorem dn_0 (to : Int) {D : Nat} (h : 1 ≤ D) : dn to D 0 = ⟨0, to, (D : Int)⟩ := by
  unfold dn; rw [if_pos (by omega)]; congr 1
theorem st_go {f : F} {want : Int} {still : Bool} (dead : Int) (h : src f.a = true) (hg : goes f.a want still = true) : st f want still dead = ⟨0, want, bd dead⟩ := by
  unfold st; rw [if_pos h, if_pos hg]

set_option maxRecDepth 100000 in
set_option maxHeartbeats 6400000 in
theorem feedDead_m (w : World) (dead : Int) (a1 : Option Addr) (len1 cap1 : Nat) (z1 : List Int)
    (hl1 : z1.length = len1) (hc1 : len1 ≤ cap1) (hx1 : cap1 ≤ maxLen) (hs1 : Sees w w.heap.size a1 (nums .i8 z1)) (hw1 : ∀ n ∈ z1, (Lit.int .i8 n).wf = true) :
    Calls Try.prog 8 #[.bool false, .int .i64 dead, .slice a1 len1 cap1] w fun e w' => e = .returned (.bool true) ∧ Below w.heap.size w w' := by
  unfold maxLen at hx1
  have HL1 := Lib.hid hl1
  have HS1 := Lib.hid hs1
  have HW1 := Lib.hid hw1
  clear hl1 hs1 hw1
  have HA : Hid (∀ W, Calls Try.prog 9 #[] W (Says W (.bool true))) := Lib.hid fun W => awake_any W
  by_cases hbig : 250 < len1
  · go_enter Try.func8, Try.ntmps8
    go_wp2_with (go_at_call 9; refine (HA.out _).mono ?_; rintro e w1 ⟨rfl, h1⟩)
    go_ret
    exact ⟨rfl, h1⟩
  · have g1 : ¬ (250 : Int) < (len1 : Int) := by omega
    obtain ⟨D, hD⟩ : ∃ D : Nat, bd dead = D := ⟨(bd dead).toNat, by have := bd_ge dead; omega⟩
    have D1 : 1 ≤ D := by have := bd_ge dead; omega
    have D2 : D ≤ 200 := by have := bd_le dead; omega
    have m1 : ∀ W, (Builtin.max_ #[3, 3] 3 #[.int .i64 dead, .int .i64 1]).run Try.prog W = .ok (.int .i64 (max dead 1)) W := fun W => by
      rw [run_max_int2]; congr 2; split <;> omega
    have m2 : ∀ W, (Builtin.min_ #[3, 3] 3 #[.int .i64 (max dead 1), .int .i64 200]).run Try.prog W = .ok (.int .i64 (D : Int)) W := fun W => by
      rw [run_min_int2]; congr 2; rw [← hD]; unfold bd bo; split <;> omega
    have HS0 := Lib.hid (fun W => Step_any ⟨1, 0, 0⟩ (by decide) 2 true dead W)
    have e0 : st ⟨1, 0, 0⟩ 2 true dead = ⟨0, 2, (D : Int)⟩ := by rw [st_go dead rfl rfl, hD]
    rw [e0] at HS0
    clear e0 hD
    unfold val at HS0
    simp only at HS0
    generalize max dead 1 = md at *
    go_enter Try.func8, Try.ntmps8
    go_wp2_with (first
      | (go_at_call 9; (with_reducible refine (HA.out _).mono ?_); clear HA; rintro e w1 ⟨rfl, h1⟩)
      | (go_at_call 10; (with_reducible refine (HS0.out _).mono ?_); clear HS0; rintro e w2 ⟨rfl, h2⟩; have hj0 := Lib.hid ((((J.start w).next h1).next h2).push #[.int .i64 0, .int .i64 2, .int .i64 D] 23); have hX : w.heap.size ≤ w2.heap.size := Nat.le_trans h1.size h2.size))
    clear h1 h2
    go_loopw [12] (fun a wr => ∃ (i : Nat), a = .int .i64 i ∧ i ≤ len1 ∧ i ≤ D ∧ Hid (J w wr [(w2.heap.size, #[.int .i64 (dn 2 D i).a, .int .i64 (dn 2 D i).t, .int .i64 (dn 2 D i).l])])) (fun a _ => len1 - (intOf a).toNat)
    case atStart => exact ⟨0, rfl, by omega, by omega, by rw [dn_0 2 D1]; exact hj0⟩
    case round =>
      clear hj0
      obtain ⟨i, rfl, hi, hiD, hj⟩ := hrel
      by_cases hlt : i < len1
      · by_cases hlD : i < D
        · have hiz : i < z1.length := by rw [HL1.out]; exact hlt
          obtain ⟨b1, p1, rfl, hb1, hcell1⟩ := HS1.out.at_ (nums_at .i8 z1 i hiz)
          have hv := bounds_i8 (HW1.out (z1[i]?.getD 0) (by simp [hiz]))
          generalize z1[i]?.getD 0 = v at *
          have HC1 := Lib.hid hcell1
          clear hcell1 hiz
          have e1 : dn 2 D i = ⟨0, 2, (D : Int) - i⟩ := by unfold dn; rw [if_pos hlD]
          have hS := Lib.hid (fun W => Step_any (dn 2 D i) (by rw [e1]; simp only; omega) v true 5 W)
          rw [dn_st 2 rfl D i hlD] at hS
          rw [e1] at hS hj
          obtain ⟨nx, hN⟩ : ∃ nx, dn 2 D (i + 1) = nx := ⟨_, rfl⟩
          obtain ⟨x, y, z⟩ := nx
          have HNx := Lib.hid hN
          rw [hN] at hS
          clear hN e1
          unfold val at hS
          simp only at hS hj
          have i1 : (i : Int) < (len1 : Int) := by omega
          have i2 : (i : Int) < (D : Int) := by omega
          have e3 : IntKind.i64.wrap ((i : Int) + 1) = ((i + 1 : Nat) : Int) := by rw [IntWalk.i64_in _ (by omega)]; rfl
          have e4 : IntKind.i64.wrap v = v := IntWalk.i64_in _ (by omega)
          have e5 : IntKind.i64.wrap ((D : Int) - i) = (D : Int) - i := IntWalk.i64_in _ (by omega)
          have hjl : Hid (JS w [(w2.heap.size, #[.int .i64 0, .int .i64 2, .int .i64 ((D : Int) - i)])] wr) := hj
          obtain ⟨c0, c1, c2⟩ := (hjl.out.bx 0 rfl).c3
          clear hj hv
          go_wp2
          refine wp_region_tail 7 _ JS.closed hjl.out (by kernel_rfl) (by kernel_rfl) ?_
          simp only [List.take_succ_cons, List.take_zero, List.drop_succ_cons, List.drop_zero]
          apply Exists.intro
          refine ⟨fun w3 h3 => ?_, fun W3 hJ3 hb3 => ?_⟩
          · haveI := Ext.some h3
            obtain ⟨q0, q1, q2⟩ := ext3 h3 0 rfl
            have m0 := ext_old h3 (a := ⟨b1, p1 + i, none⟩) hb1 HC1.out
            have k1 := Lib.hid (Ext.calls h3 JS.closed (fun W _ => hS.out W))
            repeat go_big_quiet_step (first | (go_at_call 10; with_reducible exact k1.out _))
            exact wpQuiet_nil rfl
          · clear c0 c1 c2
            obtain ⟨f0, f1, f2⟩ := (hJ3.bx 0 rfl).f3
            obtain ⟨b0, b1, b2⟩ := (hJ3.bx 0 rfl).c3
            have hj3 := Lib.hid (jput3 (x := .int .i64 x) (y := .int .i64 y) (z := .int .i64 z) hJ3 hX)
            change wpList _ _ _ _ _ _
            go_wp2
            go_roundw
            case rel => exact ⟨i + 1, rfl, by omega, by omega, by rw [HNx.out]; exact hj3⟩
            case measure => simp [intOf]; omega
        · obtain rfl : i = D := by omega
          have e1 : dn 2 i i = ⟨2, 0, 0⟩ := by unfold dn; rw [if_neg (by omega)]
          rw [e1] at hj
          simp only at hj
          have i1 : (i : Int) < (len1 : Int) := by omega
          have i2 : ¬ (len1 : Int) < (i : Int) := by omega
          obtain ⟨c0, c1, c2⟩ := (hj.out.bx 0 rfl).c3
          clear hiD e1
          go_wp2
          go_ret
          exact ⟨rfl, hj.out.below⟩
      · obtain rfl : i = len1 := by omega
        by_cases hlD : i < D
        · have i2 : (i : Int) < (D : Int) := by omega
          go_wp2
          go_ret
          exact ⟨rfl, hj.out.below⟩
        · obtain rfl : i = D := by omega
          have e1 : dn 2 i i = ⟨2, 0, 0⟩ := by unfold dn; rw [if_neg (by omega)]
          rw [e1] at hj
          simp only at hj
          obtain ⟨c0, c1, c2⟩ := (hj.out.bx 0 rfl).c3
          clear hiD e1
          go_wp2
          go_ret
          exact ⟨rfl, hj.out.below⟩

set_option maxRecDepth 100000 in
set_option maxHeartbeats 6400000 in
theorem feedDead_g (w : World) (dead : Int) (a1 : Option Addr) (len1 cap1 : Nat) (z1 : List Int)
    (hl1 : z1.length = len1) (hc1 : len1 ≤ cap1) (hx1 : cap1 ≤ maxLen) (hs1 : Sees w w.heap.size a1 (nums .i8 z1)) (hw1 : ∀ n ∈ z1, (Lit.int .i8 n).wf = true) :
    Calls Try.prog 8 #[.bool true, .int .i64 dead, .slice a1 len1 cap1] w fun e w' => e = .returned (.bool true) ∧ Below w.heap.size w w' := by
  unfold maxLen at hx1
  have HL1 := Lib.hid hl1
  have HS1 := Lib.hid hs1
  have HW1 := Lib.hid hw1
  clear hl1 hs1 hw1
  have HA : Hid (∀ W, Calls Try.prog 9 #[] W (Says W (.bool true))) := Lib.hid fun W => awake_any W
  by_cases hbig : 250 < len1
  · go_enter Try.func8, Try.ntmps8
    go_wp2_with (go_at_call 9; refine (HA.out _).mono ?_; rintro e w1 ⟨rfl, h1⟩)
    go_ret
    exact ⟨rfl, h1⟩
  · have g1 : ¬ (250 : Int) < (len1 : Int) := by omega
    obtain ⟨D, hD⟩ : ∃ D : Nat, bd dead = D := ⟨(bd dead).toNat, by have := bd_ge dead; omega⟩
    have D1 : 1 ≤ D := by have := bd_ge dead; omega
    have D2 : D ≤ 200 := by have := bd_le dead; omega
    have m1 : ∀ W, (Builtin.max_ #[3, 3] 3 #[.int .i64 dead, .int .i64 1]).run Try.prog W = .ok (.int .i64 (max dead 1)) W := fun W => by
      rw [run_max_int2]; congr 2; split <;> omega
    have m2 : ∀ W, (Builtin.min_ #[3, 3] 3 #[.int .i64 (max dead 1), .int .i64 200]).run Try.prog W = .ok (.int .i64 (D : Int)) W := fun W => by
      rw [run_min_int2]; congr 2; rw [← hD]; unfold bd bo; split <;> omega
    have HS0 := Lib.hid (fun W => Step_any ⟨2, 0, 0⟩ (by decide) 1 true dead W)
    have e0 : st ⟨2, 0, 0⟩ 1 true dead = ⟨0, 1, (D : Int)⟩ := by rw [st_go dead rfl rfl, hD]
    rw [e0] at HS0
    clear e0 hD
    unfold val at HS0
    simp only at HS0
    generalize max dead 1 = md at *
    go_enter Try.func8, Try.ntmps8
    go_wp2_with (first
      | (go_at_call 9; (with_reducible refine (HA.out _).mono ?_); clear HA; rintro e w1 ⟨rfl, h1⟩)
      | (go_at_call 10; (with_reducible refine (HS0.out _).mono ?_); clear HS0; rintro e w2 ⟨rfl, h2⟩; have hj0 := Lib.hid ((((J.start w).next h1).next h2).push #[.int .i64 0, .int .i64 1, .int .i64 D] 23); have hX : w.heap.size ≤ w2.heap.size := Nat.le_trans h1.size h2.size))
    clear h1 h2
    go_loopw [12] (fun a wr => ∃ (i : Nat), a = .int .i64 i ∧ i ≤ len1 ∧ i ≤ D ∧ Hid (J w wr [(w2.heap.size, #[.int .i64 (dn 1 D i).a, .int .i64 (dn 1 D i).t, .int .i64 (dn 1 D i).l])])) (fun a _ => len1 - (intOf a).toNat)
    case atStart => exact ⟨0, rfl, by omega, by omega, by rw [dn_0 1 D1]; exact hj0⟩
    case round =>
      clear hj0
      obtain ⟨i, rfl, hi, hiD, hj⟩ := hrel
      by_cases hlt : i < len1
      · by_cases hlD : i < D
        · have hiz : i < z1.length := by rw [HL1.out]; exact hlt
          obtain ⟨b1, p1, rfl, hb1, hcell1⟩ := HS1.out.at_ (nums_at .i8 z1 i hiz)
          have hv := bounds_i8 (HW1.out (z1[i]?.getD 0) (by simp [hiz]))
          generalize z1[i]?.getD 0 = v at *
          have HC1 := Lib.hid hcell1
          clear hcell1 hiz
          have e1 : dn 1 D i = ⟨0, 1, (D : Int) - i⟩ := by unfold dn; rw [if_pos hlD]
          have hS := Lib.hid (fun W => Step_any (dn 1 D i) (by rw [e1]; simp only; omega) v true 5 W)
          rw [dn_st 1 rfl D i hlD] at hS
          rw [e1] at hS hj
          obtain ⟨nx, hN⟩ : ∃ nx, dn 1 D (i + 1) = nx := ⟨_, rfl⟩
          obtain ⟨x, y, z⟩ := nx
          have HNx := Lib.hid hN
          rw [hN] at hS
          clear hN e1
          unfold val at hS
          simp only at hS hj
          have i1 : (i : Int) < (len1 : Int) := by omega
          have i2 : (i : Int) < (D : Int) := by omega
          have e3 : IntKind.i64.wrap ((i : Int) + 1) = ((i + 1 : Nat) : Int) := by rw [IntWalk.i64_in _ (by omega)]; rfl
          have e4 : IntKind.i64.wrap v = v := IntWalk.i64_in _ (by omega)
          have e5 : IntKind.i64.wrap ((D : Int) - i) = (D : Int) - i := IntWalk.i64_in _ (by omega)
          have hjl : Hid (JS w [(w2.heap.size, #[.int .i64 0, .int .i64 1, .int .i64 ((D : Int) - i)])] wr) := hj
          obtain ⟨c0, c1, c2⟩ := (hjl.out.bx 0 rfl).c3
          clear hj hv
          go_wp2
          refine wp_region_tail 7 _ JS.closed hjl.out (by kernel_rfl) (by kernel_rfl) ?_
          simp only [List.take_succ_cons, List.take_zero, List.drop_succ_cons, List.drop_zero]
          apply Exists.intro
          refine ⟨fun w3 h3 => ?_, fun W3 hJ3 hb3 => ?_⟩
          · haveI := Ext.some h3
            obtain ⟨q0, q1, q2⟩ := ext3 h3 0 rfl
            have m0 := ext_old h3 (a := ⟨b1, p1 + i, none⟩) hb1 HC1.out
            have k1 := Lib.hid (Ext.calls h3 JS.closed (fun W _ => hS.out W))
            repeat go_big_quiet_step (first | (go_at_call 10; with_reducible exact k1.out _))
            exact wpQuiet_nil rfl
          · clear c0 c1 c2
            obtain ⟨f0, f1, f2⟩ := (hJ3.bx 0 rfl).f3
            obtain ⟨b0, b1, b2⟩ := (hJ3.bx 0 rfl).c3
            have hj3 := Lib.hid (jput3 (x := .int .i64 x) (y := .int .i64 y) (z := .int .i64 z) hJ3 hX)
            change wpList _ _ _ _ _ _
            go_wp2
            go_roundw
            case rel => exact ⟨i + 1, rfl, by omega, by omega, by rw [HNx.out]; exact hj3⟩
            case measure => simp [intOf]; omega
        · obtain rfl : i = D := by omega
          have e1 : dn 1 i i = ⟨1, 0, 0⟩ := by unfold dn; rw [if_neg (by omega)]
          rw [e1] at hj
          simp only at hj
          have i1 : (i : Int) < (len1 : Int) := by omega
          have i2 : ¬ (len1 : Int) < (i : Int) := by omega
          obtain ⟨c0, c1, c2⟩ := (hj.out.bx 0 rfl).c3
          clear hiD e1
          go_wp2
          go_ret
          exact ⟨rfl, hj.out.below⟩
      · obtain rfl : i = len1 := by omega
        by_cases hlD : i < D
        · have i2 : (i : Int) < (D : Int) := by omega
          go_wp2
          go_ret
          exact ⟨rfl, hj.out.below⟩
        · obtain rfl : i = D := by omega
          have e1 : dn 1 i i = ⟨1, 0, 0⟩ := by unfold dn; rw [if_neg (by omega)]
          rw [e1] at hj
          simp only at hj
          obtain ⟨c0, c1, c2⟩ := (hj.out.bx 0 rfl).c3
          clear hiD e1
          go_wp2
          go_ret
          exact ⟨rfl, hj.out.below⟩

theorem feedDead_walk (w : World) (gen : Bool) (dead : Int) (a1 : Option Addr) (len1 cap1 : Nat) (z1 : List Int) (w0 : (Lit.int .i64 dead).wf = true)
    (hl1 : z1.length = len1) (hc1 : len1 ≤ cap1) (hx1 : cap1 ≤ maxLen) (hs1 : Sees w w.heap.size a1 (nums .i8 z1)) (hw1 : ∀ n ∈ z1, (Lit.int .i8 n).wf = true) :
    Calls Try.prog 8 #[.bool gen, .int .i64 dead, .slice a1 len1 cap1] w fun e w' => e = .returned (.bool true) ∧ Below w.heap.size w w' := by
  cases gen
  · exact feedDead_m w dead a1 len1 cap1 z1 hl1 hc1 hx1 hs1 hw1
  · exact feedDead_g w dead a1 len1 cap1 z1 hl1 hc1 hx1 hs1 hw1

end Go.Proofs.Ytfcdfkodafikdaa.Walk
