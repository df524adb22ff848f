/- The walk of FeedStays. -/
import Derived.Test.YtfcdfkodafikdaaFedC
import Derived.Test.YtfcdfkodafikdaaFedS
import Derived.OpenShut
import Derived.LoopN
import Derived.Laws.StructEq
namespace Go.Proofs.Ytfcdfkodafikdaa.Walk
open Go.RowKit Go.ChangeShapes Go.Proofs.Ytfcdfkodafikdaa.FedP Go.Proofs.Ytfcdfkodafikdaa.Fed Go.Proofs.Ytfcdfkodafikdaa.Box Go.Proofs.Ytfcdfkodafikdaa.Held Go.Proofs.Ytfcdfkodafikdaa.Sees Go.Proofs.Ytfcdfkodafikdaa.Open
set_option linter.unusedVariables false

/-- a switch that doesn't leave stays -/
theorem st_stay {f : F} {want : Int} {still : Bool} (dead : Int) (h : src f.a = true) (hg : goes f.a want still = false) : st f want still dead = f := by
  unfold st; rw [if_pos h, if_neg (by rw [hg]; decide)]
/-- the cells of what is wanted in tick i -/
theorem sp_cells {W : World} {B : Nat} {a : Option Addr} {l : List Sp} (h : Sees W B a (steps l)) (i : Nat) (p : Sp) (hp : l[i]? = some p) :
    ∃ b o, a = some ⟨b, o, none⟩ ∧ b < B ∧ W.cell? ⟨b, o + i * 3, none⟩ = some (.int .i64 p.w) ∧ W.cell? ⟨b, o + i * 3 + 1, none⟩ = some (.bool p.s) ∧ W.cell? ⟨b, o + i * 3 + 2, none⟩ = some (.int .i64 p.d) := by
  obtain ⟨h0, h1, h2⟩ := steps_at l i p hp
  rcases h with h | ⟨b, o, ha, hb, hc⟩
  · rw [h] at h0; simp at h0
  · exact ⟨b, o, ha, hb, hc _ _ h0, hc _ _ h1, hc _ _ h2⟩

set_option maxRecDepth 100000 in
set_option maxHeartbeats 6400000 in
theorem feedStays_walk (w : World) (a1 : Option Addr) (len1 cap1 : Nat) (z1 : List Sp) (gen mains on : Bool)
    (hl1 : z1.length = len1) (hc1 : len1 ≤ cap1) (hx1 : cap1 ≤ maxLen) (hs1 : Sees w w.heap.size a1 (steps z1)) :
    Calls Try.prog 7 #[.slice a1 len1 cap1, .bool gen, .bool mains, .bool on] w fun e w' => e = .returned (.bool true) ∧ Below w.heap.size w w' := by
  unfold maxLen at hx1
  have HL1 := Lib.hid hl1
  have HS1 := Lib.hid hs1
  clear hl1 hs1
  have HA : Hid (∀ W, Calls Try.prog 9 #[] W (Says W (.bool true))) := Lib.hid fun W => awake_any W
  by_cases hbig : 200 < len1
  · go_enter Try.func7, Try.ntmps7
    go_wp2_with (go_at_call 9; refine (HA.out _).mono ?_; rintro e w1 ⟨rfl, h1⟩)
    go_ret
    exact ⟨rfl, h1⟩
  · have g1 : ¬ (200 : Int) < (len1 : Int) := by omega
    cases gen
    · have HS1a : Hid (∀ (s : Bool) (d : Int) W, Calls Try.prog 10 #[.agg #[.int .i64 1, .int .i64 0, .int .i64 0], .int .i64 1, .bool s, .int .i64 d] W (Says W (.agg #[.int .i64 1, .int .i64 0, .int .i64 0]))) := Lib.hid fun s d W => by
        have := Step_any ⟨1, 0, 0⟩ (by decide) 1 s d W; rwa [st_stay d rfl (by unfold goes; simp)] at this
      have HS2a : Hid (∀ (x d : Int) W, Calls Try.prog 10 #[.agg #[.int .i64 1, .int .i64 0, .int .i64 0], .int .i64 x, .bool false, .int .i64 d] W (Says W (.agg #[.int .i64 1, .int .i64 0, .int .i64 0]))) := Lib.hid fun x d W => by
        have := Step_any ⟨1, 0, 0⟩ (by decide) x false d W; rwa [st_stay d rfl (by unfold goes; simp)] at this
      have HS3a : Hid (∀ (d : Int) W, Calls Try.prog 10 #[.agg #[.int .i64 1, .int .i64 0, .int .i64 0], .int .i64 0, .bool true, .int .i64 d] W (Says W (.agg #[.int .i64 1, .int .i64 0, .int .i64 0]))) := Lib.hid fun d W => by
        have := Step_any ⟨1, 0, 0⟩ (by decide) 0 true d W; rwa [st_stay d rfl rfl] at this
      have HP := Lib.hid (fun W => Power_any ⟨1, 0, 0⟩ mains on W)
      have HP0 : Hid (∀ W, Calls Try.prog 13 #[.agg #[.int .i64 0, .int .i64 1, .int .i64 3], .bool true, .bool true] W (Says W (.int .i64 0))) := Lib.hid fun W => Power_any ⟨0, 1, 3⟩ true true W
      unfold val at HP
      simp only at HP
      go_enter Try.func7, Try.ntmps7
      go_wp2_with (go_at_call 9; (with_reducible refine (HA.out _).mono ?_); clear HA; rintro e w1 ⟨rfl, h1⟩)
      have hj0 := Lib.hid (((J.start w).next h1).push #[.int .i64 1, .int .i64 0, .int .i64 0] 23)
      have hX : w.heap.size ≤ w1.heap.size := h1.size
      clear h1
      go_loopw [12] (fun a wr => ∃ (i : Nat), a = .int .i64 i ∧ i ≤ len1 ∧ Hid (J w wr [(w1.heap.size, #[.int .i64 1, .int .i64 0, .int .i64 0])])) (fun a _ => len1 - (intOf a).toNat)
      case atStart => exact ⟨0, rfl, by omega, hj0⟩
      case round =>
        clear hj0
        obtain ⟨i, rfl, hi, hj⟩ := hrel
        by_cases hlt : i < len1
        · have hiz : i < z1.length := by rw [HL1.out]; exact hlt
          obtain ⟨b1, p1, rfl, hb1, k0, k1, k2⟩ := sp_cells HS1.out i z1[i] (List.getElem?_eq_getElem hiz)
          generalize z1[i] = q at k0 k1 k2
          obtain ⟨qw, qs, qd⟩ := q
          simp only at k0 k1 k2
          have HC0 := Lib.hid k0
          have HC1 := Lib.hid k1
          have HC2 := Lib.hid k2
          have H1 := Lib.hid (HS1a.out qs qd)
          have H2 := Lib.hid (HS2a.out qw qd)
          have H3 := Lib.hid (HS3a.out qd)
          clear k0 k1 k2 hiz
          have hjl : Hid (JS w [(w1.heap.size, #[.int .i64 1, .int .i64 0, .int .i64 0])] wr) := hj
          clear hj
          have i1 : (i : Int) < (len1 : Int) := by omega
          have e3 : IntKind.i64.wrap ((i : Int) + 1) = ((i + 1 : Nat) : Int) := by rw [IntWalk.i64_in _ (by omega)]; rfl
          go_wp2
          refine wp_region_all _ JS.closed hjl.out (by kernel_rfl) (by kernel_rfl) ?_
          apply Exists.intro
          refine ⟨fun w3 h3 => ?_, fun W3 hJ3 hb3 => ?_⟩
          · haveI := Ext.some h3
            obtain ⟨q0, q1, q2⟩ := ext3 h3 0 rfl
            have m0 := ext_old h3 (a := ⟨b1, p1 + i * 3, none⟩) hb1 HC0.out
            have m1 := ext_old h3 (a := ⟨b1, p1 + i * 3 + 1, none⟩) hb1 HC1.out
            have m2 := ext_old h3 (a := ⟨b1, p1 + i * 3 + 2, none⟩) hb1 HC2.out
            have c1 := Lib.hid (Ext.calls h3 JS.closed (fun W _ => H1.out W))
            have c2 := Lib.hid (Ext.calls h3 JS.closed (fun W _ => H2.out W))
            have c3 := Lib.hid (Ext.calls h3 JS.closed (fun W _ => H3.out W))
            repeat go_big_quiet_step (first | (go_at_call 10; first | with_reducible exact c1.out _ | with_reducible exact c2.out _ | with_reducible exact c3.out _))
            exact wpQuiet_nil rfl
          · have hj3 : Hid (J w W3 _) := Lib.hid hJ3
            go_wp2
            go_roundw
            case rel => exact ⟨i + 1, rfl, by omega, hj3⟩
            case measure => simp [intOf]; omega
        · obtain rfl : i = len1 := by omega
          obtain ⟨a0, a1', a2⟩ := (hj.out.bx 0 rfl).c3
          have hj1 := Lib.hid (hj.out.push #[.int .i64 0, .int .i64 1, .int .i64 3] 23)
          obtain ⟨b0, b1, b2⟩ := (hj1.out.bx 1 rfl).c3
          cases mains
          all_goals
            simp only [pw, if_true, if_false, Bool.false_eq_true] at HP
            go_wp2_with (first
              | (go_at_call 13; (with_reducible refine (HP.out _).mono ?_); clear HP; rintro e5 w5 ⟨rfl, h5⟩; have hj2 := Lib.hid (hj1.out.next h5); clear h5; obtain ⟨d0, d1, d2⟩ := (hj2.out.bx 0 rfl).c3)
              | (go_at_call 13; (with_reducible refine (HP0.out _).mono ?_); clear HP0; rintro e6 w6 ⟨rfl, h6⟩; have hj3 := Lib.hid (hj2.out.next h6)))
            go_ret
            exact ⟨rfl, hj3.out.below⟩
    · have HS1a : Hid (∀ (s : Bool) (d : Int) W, Calls Try.prog 10 #[.agg #[.int .i64 2, .int .i64 0, .int .i64 0], .int .i64 2, .bool s, .int .i64 d] W (Says W (.agg #[.int .i64 2, .int .i64 0, .int .i64 0]))) := Lib.hid fun s d W => by
        have := Step_any ⟨2, 0, 0⟩ (by decide) 2 s d W; rwa [st_stay d rfl (by unfold goes; simp)] at this
      have HS2a : Hid (∀ (x d : Int) W, Calls Try.prog 10 #[.agg #[.int .i64 2, .int .i64 0, .int .i64 0], .int .i64 x, .bool false, .int .i64 d] W (Says W (.agg #[.int .i64 2, .int .i64 0, .int .i64 0]))) := Lib.hid fun x d W => by
        have := Step_any ⟨2, 0, 0⟩ (by decide) x false d W; rwa [st_stay d rfl (by unfold goes; simp)] at this
      have HS3a : Hid (∀ (d : Int) W, Calls Try.prog 10 #[.agg #[.int .i64 2, .int .i64 0, .int .i64 0], .int .i64 0, .bool true, .int .i64 d] W (Says W (.agg #[.int .i64 2, .int .i64 0, .int .i64 0]))) := Lib.hid fun d W => by
        have := Step_any ⟨2, 0, 0⟩ (by decide) 0 true d W; rwa [st_stay d rfl rfl] at this
      have HP := Lib.hid (fun W => Power_any ⟨2, 0, 0⟩ mains on W)
      have HP0 : Hid (∀ W, Calls Try.prog 13 #[.agg #[.int .i64 0, .int .i64 2, .int .i64 3], .bool true, .bool true] W (Says W (.int .i64 0))) := Lib.hid fun W => Power_any ⟨0, 2, 3⟩ true true W
      unfold val at HP
      simp only at HP
      go_enter Try.func7, Try.ntmps7
      go_wp2_with (go_at_call 9; (with_reducible refine (HA.out _).mono ?_); clear HA; rintro e w1 ⟨rfl, h1⟩)
      have hj0 := Lib.hid (((J.start w).next h1).push #[.int .i64 2, .int .i64 0, .int .i64 0] 23)
      have hX : w.heap.size ≤ w1.heap.size := h1.size
      clear h1
      go_loopw [12] (fun a wr => ∃ (i : Nat), a = .int .i64 i ∧ i ≤ len1 ∧ Hid (J w wr [(w1.heap.size, #[.int .i64 2, .int .i64 0, .int .i64 0])])) (fun a _ => len1 - (intOf a).toNat)
      case atStart => exact ⟨0, rfl, by omega, hj0⟩
      case round =>
        clear hj0
        obtain ⟨i, rfl, hi, hj⟩ := hrel
        by_cases hlt : i < len1
        · have hiz : i < z1.length := by rw [HL1.out]; exact hlt
          obtain ⟨b1, p1, rfl, hb1, k0, k1, k2⟩ := sp_cells HS1.out i z1[i] (List.getElem?_eq_getElem hiz)
          generalize z1[i] = q at k0 k1 k2
          obtain ⟨qw, qs, qd⟩ := q
          simp only at k0 k1 k2
          have HC0 := Lib.hid k0
          have HC1 := Lib.hid k1
          have HC2 := Lib.hid k2
          have H1 := Lib.hid (HS1a.out qs qd)
          have H2 := Lib.hid (HS2a.out qw qd)
          have H3 := Lib.hid (HS3a.out qd)
          clear k0 k1 k2 hiz
          have hjl : Hid (JS w [(w1.heap.size, #[.int .i64 2, .int .i64 0, .int .i64 0])] wr) := hj
          clear hj
          have i1 : (i : Int) < (len1 : Int) := by omega
          have e3 : IntKind.i64.wrap ((i : Int) + 1) = ((i + 1 : Nat) : Int) := by rw [IntWalk.i64_in _ (by omega)]; rfl
          go_wp2
          refine wp_region_all _ JS.closed hjl.out (by kernel_rfl) (by kernel_rfl) ?_
          apply Exists.intro
          refine ⟨fun w3 h3 => ?_, fun W3 hJ3 hb3 => ?_⟩
          · haveI := Ext.some h3
            obtain ⟨q0, q1, q2⟩ := ext3 h3 0 rfl
            have m0 := ext_old h3 (a := ⟨b1, p1 + i * 3, none⟩) hb1 HC0.out
            have m1 := ext_old h3 (a := ⟨b1, p1 + i * 3 + 1, none⟩) hb1 HC1.out
            have m2 := ext_old h3 (a := ⟨b1, p1 + i * 3 + 2, none⟩) hb1 HC2.out
            have c1 := Lib.hid (Ext.calls h3 JS.closed (fun W _ => H1.out W))
            have c2 := Lib.hid (Ext.calls h3 JS.closed (fun W _ => H2.out W))
            have c3 := Lib.hid (Ext.calls h3 JS.closed (fun W _ => H3.out W))
            repeat go_big_quiet_step (first | (go_at_call 10; first | with_reducible exact c1.out _ | with_reducible exact c2.out _ | with_reducible exact c3.out _))
            exact wpQuiet_nil rfl
          · have hj3 : Hid (J w W3 _) := Lib.hid hJ3
            go_wp2
            go_roundw
            case rel => exact ⟨i + 1, rfl, by omega, hj3⟩
            case measure => simp [intOf]; omega
        · obtain rfl : i = len1 := by omega
          obtain ⟨a0, a1', a2⟩ := (hj.out.bx 0 rfl).c3
          have hj1 := Lib.hid (hj.out.push #[.int .i64 0, .int .i64 2, .int .i64 3] 23)
          obtain ⟨b0, b1, b2⟩ := (hj1.out.bx 1 rfl).c3
          cases on
          all_goals
            simp only [pw, if_true, if_false, Bool.false_eq_true, show ¬ (2 : Int) = 1 by decide] at HP
            go_wp2_with (first
              | (go_at_call 13; (with_reducible refine (HP.out _).mono ?_); clear HP; rintro e5 w5 ⟨rfl, h5⟩; have hj2 := Lib.hid (hj1.out.next h5); clear h5; obtain ⟨d0, d1, d2⟩ := (hj2.out.bx 0 rfl).c3)
              | (go_at_call 13; (with_reducible refine (HP0.out _).mono ?_); clear HP0; rintro e6 w6 ⟨rfl, h6⟩; have hj3 := Lib.hid (hj2.out.next h6)))
            go_ret
            exact ⟨rfl, hj3.out.below⟩

end Go.Proofs.Ytfcdfkodafikdaa.Walk
