/- The walk of FeedGoes. -/
import Derived.Test.YtfcdfkodafikdaaFedQ
import Derived.Test.YtfcdfkodafikdaaFedS
import Derived.Test.YtfcdfkodafikdaaFedW4
import Derived.Test.YtfcdfkodafikdaaFedW5
import Derived.OpenShut
import Derived.LoopN
import Derived.Laws.StructEq
namespace Go.Proofs.Ytfcdfkodafikdaa.Walk
open Go.RowKit Go.ChangeShapes Go.Proofs.Ytfcdfkodafikdaa.FedP Go.Proofs.Ytfcdfkodafikdaa.Fed Go.Proofs.Ytfcdfkodafikdaa.Box Go.Proofs.Ytfcdfkodafikdaa.Held Go.Proofs.Ytfcdfkodafikdaa.Sees Go.Proofs.Ytfcdfkodafikdaa.Open
set_option linter.unusedVariables false

/-- what the loop keeps: at a place; or between, as many ticks gone as aren't left -/
def GoInv (xf xt xb xd : Int) (f : F) : Prop :=
  (∃ a, f = ⟨a, 0, 0⟩ ∧ src a = true) ∨ (∃ l, f = ⟨0, xt, l⟩ ∧ src xt = true ∧ ¬ xt = xf ∧ 1 ≤ l ∧ xb + l = xd + 1 ∧ 1 ≤ xb ∧ xd ≤ 200)
theorem pw_src {a : Int} (h : src a = true) : pw a true true = a := by
  rcases src_yes h with rfl | rfl <;> rfl
theorem st_nr {f : F} (h : src f.a = false) (want : Int) (still : Bool) (dead : Int) : st f want still dead = nr f := by
  unfold st; rw [if_neg (by rw [h]; decide)]
theorem goes_yes {a want : Int} {still : Bool} (h : goes a want still = true) : ¬ want = a ∧ src want = true ∧ still = true := by unfold goes at h; simpa using h
theorem jput3b {w W : World} {X B : Nat} {a b c x y z : Value} {cs : Array Value} (h : J w W [(B, cs), (X, #[a, b, c])]) (hX : w.heap.size ≤ X) (hne : B ≠ X) : J w (((W.setCell ⟨X, 0, none⟩ x).setCell ⟨X, 1, none⟩ y).setCell ⟨X, 2, none⟩ z) [(X, #[x, y, z]), (B, cs)] :=
  (jswap h).fill3 hX (fun q hq => by simp at hq; subst hq; exact hne)

set_option maxRecDepth 100000 in
set_option maxHeartbeats 6400000 in
theorem feedGoes_walk (w : World) (a1 : Option Addr) (len1 cap1 : Nat) (z1 : List Sp) (gen : Bool)
    (hl1 : z1.length = len1) (hc1 : len1 ≤ cap1) (hx1 : cap1 ≤ maxLen) (hs1 : Sees w w.heap.size a1 (steps z1)) :
    Calls Try.prog 5 #[.slice a1 len1 cap1, .bool gen] w fun e w' => e = .returned (.bool true) ∧ Below w.heap.size w w' := by
  unfold maxLen at hx1
  have HL1 := Lib.hid hl1
  have HS1 := Lib.hid hs1
  clear hl1 hs1
  have HA : Hid (∀ W, Calls Try.prog 9 #[] W (Says W (.bool true))) := Lib.hid fun W => awake_any W
  by_cases hbig : 300 < len1
  · go_enter Try.func5, Try.ntmps5
    go_wp2_with (go_at_call 9; refine (HA.out _).mono ?_; rintro e w1 ⟨rfl, h1⟩)
    go_ret
    exact ⟨rfl, h1⟩
  · have g1 : ¬ (300 : Int) < (len1 : Int) := by omega
    have HP0 : Hid (∀ (y z : Int) W, Calls Try.prog 13 #[.agg #[.int .i64 0, .int .i64 y, .int .i64 z], .bool true, .bool true] W (Says W (.int .i64 0))) := Lib.hid fun y z W => Power_any ⟨0, y, z⟩ true true W
    obtain ⟨A, hA1, hA2⟩ : ∃ A : Int, src A = true ∧ (gen = true ∧ A = 2 ∨ gen = false ∧ A = 1) := by
      cases gen
      · exact ⟨1, rfl, .inr ⟨rfl, rfl⟩⟩
      · exact ⟨2, rfl, .inl ⟨rfl, rfl⟩⟩
    go_enter Try.func5, Try.ntmps5
    rcases hA2 with ⟨rfl, rfl⟩ | ⟨rfl, rfl⟩
    · go_wp2_with (go_at_call 9; (with_reducible refine (HA.out _).mono ?_); clear HA; rintro e w1 ⟨rfl, h1⟩)
      have hj0 := Lib.hid (((J.start w).next h1).push #[.int .i64 2, .int .i64 0, .int .i64 0] 23)
      have hX : w.heap.size ≤ w1.heap.size := h1.size
      clear h1
      go_loopw [7, 8, 9, 10, 11] (fun fr t b d a wr => ∃ (i : Nat) (xf xt xb xd : Int) (f : F), fr = .int .i64 xf ∧ t = .int .i64 xt ∧ b = .int .i64 xb ∧ d = .int .i64 xd ∧ a = .int .i64 i ∧ i ≤ len1 ∧ GoInv xf xt xb xd f ∧ Hid (J w wr [(w1.heap.size, #[.int .i64 f.a, .int .i64 f.t, .int .i64 f.l])])) (fun _ _ _ _ a _ => len1 - (intOf a).toNat)
      case atStart => exact ⟨0, 2, 0, 0, 0, ⟨2, 0, 0⟩, rfl, rfl, rfl, rfl, rfl, by omega, .inl ⟨2, rfl, rfl⟩, hj0⟩
      case round =>
        clear hj0
        obtain ⟨i, xf, xt, xb, xd, f, rfl, rfl, rfl, rfl, rfl, hi, hinv, hj⟩ := hrel
        by_cases hlt : i < len1
        · have hiz : i < z1.length := by rw [HL1.out]; exact hlt
          obtain ⟨b1, p1, rfl, hb1, k0, k1, k2⟩ := sp_cells HS1.out i z1[i] (List.getElem?_eq_getElem hiz)
          generalize z1[i] = q at k0 k1 k2
          obtain ⟨qw, qs, qd⟩ := q
          simp only at k0 k1 k2
          have HC0 := Lib.hid k0
          have HC1 := Lib.hid k1
          have HC2 := Lib.hid k2
          clear k0 k1 k2 hiz
          have i1 : (i : Int) < (len1 : Int) := by omega
          have e3 : IntKind.i64.wrap ((i : Int) + 1) = ((i + 1 : Nat) : Int) := by rw [IntWalk.i64_in _ (by omega)]; rfl
          rcases hinv with ⟨a, rfl, ha⟩ | ⟨l, rfl, ht, hf, l1, hs, hb, hd⟩
          · have HS := Lib.hid (fun W => Step_any ⟨a, 0, 0⟩ (by simp only; omega) qw qs qd W)
            have HP := Lib.hid (fun W => Power_any ⟨a, 0, 0⟩ true true W)
            unfold val at HS HP
            simp only at HS HP hj
            rw [pw_src ha] at HP
            have a0 : (a == 0) = false := by rcases src_yes ha with rfl | rfl <;> rfl
            have a0' : (a != 0) = true := by rcases src_yes ha with rfl | rfl <;> rfl
            have aa : (a == a) = true := by simp
            cases hg : goes a qw qs with
            | false =>
              rw [st_stay (f := ⟨a, 0, 0⟩) qd ha hg] at HS
              simp only at HS
              clear hg
              have hjl : Hid (JS w _ _) := Lib.hid (hj.out.push #[.int .i64 a, .int .i64 0, .int .i64 0] 23)
              obtain ⟨c0, c1, c2⟩ := (hj.out.bx 0 rfl).c3
              have hltX := (hj.out.bx 0 rfl).lt
              have hneX : wr.heap.size ≠ w1.heap.size := by omega
              clear hj
              go_wp2
              refine wp_region_tail 17 _ JS.closed hjl.out (by kernel_rfl) (by kernel_rfl) ?_
              simp only [List.take_succ_cons, List.take_zero, List.drop_succ_cons, List.drop_zero]
              apply Exists.intro
              refine ⟨fun w3 h3 => ?_, fun W3 hJ3 hb3 => ?_⟩
              · haveI := Ext.some h3
                obtain ⟨q0, q1, q2⟩ := ext3 h3 1 rfl
                have m0 := ext_old h3 (a := ⟨b1, p1 + i * 3, none⟩) hb1 HC0.out
                have m1 := ext_old h3 (a := ⟨b1, p1 + i * 3 + 1, none⟩) hb1 HC1.out
                have m2 := ext_old h3 (a := ⟨b1, p1 + i * 3 + 2, none⟩) hb1 HC2.out
                have k1 := Lib.hid (Ext.calls h3 JS.closed (fun W _ => HS.out W))
                repeat go_big_quiet_step (first | (go_at_call 10; with_reducible exact k1.out _))
                exact wpQuiet_nil rfl
              · clear c0 c1 c2
                obtain ⟨f0, f1, f2⟩ := (hJ3.bx 1 rfl).f3
                obtain ⟨b0, b1', b2⟩ := (hJ3.bx 1 rfl).c3
                obtain ⟨v0, v1, v2⟩ := (hJ3.bx 0 rfl).c3
                have hj4 : Hid (JS w _ _) := Lib.hid (jput3b (x := .int .i64 a) (y := .int .i64 0) (z := .int .i64 0) hJ3 hX hneX)
                change wpList _ _ _ _ _ _
                go_wp2
                go_roundw
                case rel => exact ⟨i + 1, xf, xt, xb, xd, ⟨a, 0, 0⟩, rfl, rfl, rfl, rfl, rfl, by omega, .inl ⟨_, rfl, ha⟩, Lib.hid (jhead hj4.out)⟩
                case measure => simp [intOf]; omega
            | true =>
              rw [st_go (f := ⟨a, 0, 0⟩) qd ha hg] at HS
              simp only at HS
              obtain ⟨hga, hgs, rfl⟩ := goes_yes hg
              clear hg
              have D1 := bd_ge qd
              have D2 := bd_le qd
              have m1 : ∀ W, (Builtin.max_ #[3, 3] 3 #[.int .i64 qd, .int .i64 1]).run Try.prog W = .ok (.int .i64 (max qd 1)) W := fun W => by
                rw [run_max_int2]; congr 2; split <;> omega
              have m2 : ∀ W, (Builtin.min_ #[3, 3] 3 #[.int .i64 (max qd 1), .int .i64 200]).run Try.prog W = .ok (.int .i64 (bd qd)) W := fun W => by
                rw [run_min_int2]; congr 2; unfold bd bo; split <;> omega
              generalize bd qd = D at *
              generalize max qd 1 = mq at *
              have ga : (qw == a) = false := by simpa using hga
              have d1 : ¬ D < 1 := by omega
              have hgs' := Lib.hid hgs
              clear hga hgs
              have hjl : Hid (JS w _ _) := Lib.hid (hj.out.push #[.int .i64 a, .int .i64 0, .int .i64 0] 23)
              obtain ⟨c0, c1, c2⟩ := (hj.out.bx 0 rfl).c3
              have hltX := (hj.out.bx 0 rfl).lt
              have hneX : wr.heap.size ≠ w1.heap.size := by omega
              clear hj
              go_wp2
              refine wp_region_tail 17 _ JS.closed hjl.out (by kernel_rfl) (by kernel_rfl) ?_
              simp only [List.take_succ_cons, List.take_zero, List.drop_succ_cons, List.drop_zero]
              apply Exists.intro
              refine ⟨fun w3 h3 => ?_, fun W3 hJ3 hb3 => ?_⟩
              · haveI := Ext.some h3
                obtain ⟨q0, q1, q2⟩ := ext3 h3 1 rfl
                have m0 := ext_old h3 (a := ⟨b1, p1 + i * 3, none⟩) hb1 HC0.out
                have m1 := ext_old h3 (a := ⟨b1, p1 + i * 3 + 1, none⟩) hb1 HC1.out
                have m2 := ext_old h3 (a := ⟨b1, p1 + i * 3 + 2, none⟩) hb1 HC2.out
                have k1 := Lib.hid (Ext.calls h3 JS.closed (fun W _ => HS.out W))
                repeat go_big_quiet_step (first | (go_at_call 10; with_reducible exact k1.out _))
                exact wpQuiet_nil rfl
              · clear c0 c1 c2
                obtain ⟨f0, f1, f2⟩ := (hJ3.bx 1 rfl).f3
                obtain ⟨b0, b1', b2⟩ := (hJ3.bx 1 rfl).c3
                obtain ⟨v0, v1, v2⟩ := (hJ3.bx 0 rfl).c3
                have hj4 : Hid (JS w _ _) := Lib.hid (jput3b (x := .int .i64 0) (y := .int .i64 qw) (z := .int .i64 D) hJ3 hX hneX)
                change wpList _ _ _ _ _ _
                go_wp2
                refine wp_region_all _ JS.closed hj4.out (by kernel_rfl) (by kernel_rfl) ?_
                apply Exists.intro
                refine ⟨fun w9 h9 => ?_, fun W9 hJ9 hb9 => ?_⟩
                · haveI := Ext.some h9
                  obtain ⟨q0, q1, q2⟩ := ext3 h9 1 rfl
                  have m0 := ext_old h9 (a := ⟨b1, p1 + i * 3, none⟩) hb1 HC0.out
                  have m1 := ext_old h9 (a := ⟨b1, p1 + i * 3 + 1, none⟩) hb1 HC1.out
                  have m2 := ext_old h9 (a := ⟨b1, p1 + i * 3 + 2, none⟩) hb1 HC2.out
                  have k1 := Lib.hid (Ext.calls h9 JS.closed (fun W _ => HP.out W))
                  repeat go_big_quiet_step (first | (go_at_call 13; with_reducible exact k1.out _))
                  exact wpQuiet_nil rfl
                · clear f0 f1 f2 b0 b1' b2 v0 v1 v2
                  have hj5 : Hid (J w W9 _) := Lib.hid hJ9
                  obtain ⟨b0, b1', b2⟩ := (hj5.out.bx 0 rfl).c3
                  obtain ⟨v0, v1, v2⟩ := (hj5.out.bx 1 rfl).c3
                  have m0 := (hj5.out.below.cell (p := ⟨b1, p1 + i * 3, none⟩) hb1).trans HC0.out
                  have m1' := (hj5.out.below.cell (p := ⟨b1, p1 + i * 3 + 1, none⟩) hb1).trans HC1.out
                  have m2' := (hj5.out.below.cell (p := ⟨b1, p1 + i * 3 + 2, none⟩) hb1).trans HC2.out
                  go_wp2_with (go_at_call 13; (with_reducible refine (HP0.out _ _ _).mono ?_); rintro e5 w5 ⟨rfl, h5⟩; have hj6 := Lib.hid (hj5.out.next h5))
                  go_roundw
                  case rel => exact ⟨i + 1, a, qw, 1, D, ⟨0, qw, D⟩, rfl, rfl, rfl, rfl, rfl, by omega, .inr ⟨D, rfl, hgs'.out, by simpa using ga, D1, by omega, by omega, D2⟩, Lib.hid (jhead hj6.out)⟩
                  case measure => simp [intOf]; omega
          · have HS := Lib.hid (fun W => Step_any ⟨0, xt, l⟩ (by simp only; omega) qw qs qd W)
            rw [st_nr (f := ⟨0, xt, l⟩) rfl] at HS
            unfold val at HS
            simp only at HS hj
            by_cases k : 1 < l
            · have e5 : nr ⟨0, xt, l⟩ = ⟨0, xt, l - 1⟩ := by unfold nr; rw [if_pos k]
              rw [e5] at HS
              simp only at HS
              obtain ⟨l', hl'⟩ : ∃ l', l - 1 = l' := ⟨_, rfl⟩
              rw [hl'] at HS
              have HQ := Lib.hid (show src xt = true ∧ ¬ xt = xf ∧ 1 ≤ l' ∧ xb + 1 + l' = xd + 1 ∧ 1 ≤ xb + 1 ∧ xd ≤ 200 from ⟨ht, hf, by omega, by omega, by omega, hd⟩)
              have e6 : IntKind.i64.wrap (xb + 1) = xb + 1 := IntWalk.i64_in _ (by omega)
              have e7 : ¬ xd < xb + 1 := by omega
              clear e5 hl' ht hf l1 hs hb hd k
              have hjl : Hid (JS w _ _) := Lib.hid (hj.out.push #[.int .i64 0, .int .i64 xt, .int .i64 l] 23)
              obtain ⟨c0, c1, c2⟩ := (hj.out.bx 0 rfl).c3
              have hltX := (hj.out.bx 0 rfl).lt
              have hneX : wr.heap.size ≠ w1.heap.size := by omega
              clear hj
              go_wp2
              refine wp_region_tail 17 _ JS.closed hjl.out (by kernel_rfl) (by kernel_rfl) ?_
              simp only [List.take_succ_cons, List.take_zero, List.drop_succ_cons, List.drop_zero]
              apply Exists.intro
              refine ⟨fun w3 h3 => ?_, fun W3 hJ3 hb3 => ?_⟩
              · haveI := Ext.some h3
                obtain ⟨q0, q1, q2⟩ := ext3 h3 1 rfl
                have m0 := ext_old h3 (a := ⟨b1, p1 + i * 3, none⟩) hb1 HC0.out
                have m1 := ext_old h3 (a := ⟨b1, p1 + i * 3 + 1, none⟩) hb1 HC1.out
                have m2 := ext_old h3 (a := ⟨b1, p1 + i * 3 + 2, none⟩) hb1 HC2.out
                have k1 := Lib.hid (Ext.calls h3 JS.closed (fun W _ => HS.out W))
                repeat go_big_quiet_step (first | (go_at_call 10; with_reducible exact k1.out _))
                exact wpQuiet_nil rfl
              · clear c0 c1 c2
                obtain ⟨f0, f1, f2⟩ := (hJ3.bx 1 rfl).f3
                obtain ⟨b0, b1', b2⟩ := (hJ3.bx 1 rfl).c3
                obtain ⟨v0, v1, v2⟩ := (hJ3.bx 0 rfl).c3
                have hj4 : Hid (JS w _ _) := Lib.hid (jput3b (x := .int .i64 0) (y := .int .i64 xt) (z := .int .i64 l') hJ3 hX hneX)
                change wpList _ _ _ _ _ _
                go_wp2_with (go_at_call 13; (with_reducible refine (HP0.out _ _ _).mono ?_); rintro e5 w5 ⟨rfl, h5⟩; have hj5 := Lib.hid (J.next hj4.out h5))
                go_roundw
                case rel => exact ⟨i + 1, xf, xt, xb + 1, xd, ⟨0, xt, l'⟩, rfl, rfl, rfl, rfl, rfl, by omega, .inr ⟨l', rfl, HQ.out⟩, Lib.hid (jhead hj5.out)⟩
                case measure => simp [intOf]; omega
            · have e5 : nr ⟨0, xt, l⟩ = ⟨xt, 0, 0⟩ := by unfold nr; rw [if_neg k, if_pos ht]
              rw [e5] at HS
              simp only at HS
              have hbd : xb = xd := by omega
              subst hbd
              have x0 : (xt == 0) = false := by rcases src_yes ht with rfl | rfl <;> rfl
              have x1 : (xt == xt) = true := by simp
              have x2 : (xb == xb) = true := by simp
              have x3 : (xt == xf) = false := by simpa using hf
              have HQ := Lib.hid ht
              clear e5 ht hf l1 hs hb hd k
              have hjl : Hid (JS w _ _) := Lib.hid (hj.out.push #[.int .i64 0, .int .i64 xt, .int .i64 l] 23)
              obtain ⟨c0, c1, c2⟩ := (hj.out.bx 0 rfl).c3
              have hltX := (hj.out.bx 0 rfl).lt
              have hneX : wr.heap.size ≠ w1.heap.size := by omega
              clear hj
              go_wp2
              refine wp_region_tail 17 _ JS.closed hjl.out (by kernel_rfl) (by kernel_rfl) ?_
              simp only [List.take_succ_cons, List.take_zero, List.drop_succ_cons, List.drop_zero]
              apply Exists.intro
              refine ⟨fun w3 h3 => ?_, fun W3 hJ3 hb3 => ?_⟩
              · haveI := Ext.some h3
                obtain ⟨q0, q1, q2⟩ := ext3 h3 1 rfl
                have m0 := ext_old h3 (a := ⟨b1, p1 + i * 3, none⟩) hb1 HC0.out
                have m1 := ext_old h3 (a := ⟨b1, p1 + i * 3 + 1, none⟩) hb1 HC1.out
                have m2 := ext_old h3 (a := ⟨b1, p1 + i * 3 + 2, none⟩) hb1 HC2.out
                have k1 := Lib.hid (Ext.calls h3 JS.closed (fun W _ => HS.out W))
                repeat go_big_quiet_step (first | (go_at_call 10; with_reducible exact k1.out _))
                exact wpQuiet_nil rfl
              · clear c0 c1 c2
                obtain ⟨f0, f1, f2⟩ := (hJ3.bx 1 rfl).f3
                obtain ⟨b0, b1', b2⟩ := (hJ3.bx 1 rfl).c3
                obtain ⟨v0, v1, v2⟩ := (hJ3.bx 0 rfl).c3
                have hj4 : Hid (JS w _ _) := Lib.hid (jput3b (x := .int .i64 xt) (y := .int .i64 0) (z := .int .i64 0) hJ3 hX hneX)
                change wpList _ _ _ _ _ _
                go_wp2
                go_roundw
                case rel => exact ⟨i + 1, xf, xt, xb, xb, ⟨xt, 0, 0⟩, rfl, rfl, rfl, rfl, rfl, by omega, .inl ⟨_, rfl, HQ.out⟩, Lib.hid (jhead hj4.out)⟩
                case measure => simp [intOf]; omega
        · obtain rfl : i = len1 := by omega
          go_wp2
          go_ret
          exact ⟨rfl, hj.out.below⟩
    · go_wp2_with (go_at_call 9; (with_reducible refine (HA.out _).mono ?_); clear HA; rintro e w1 ⟨rfl, h1⟩)
      have hj0 := Lib.hid (((J.start w).next h1).push #[.int .i64 1, .int .i64 0, .int .i64 0] 23)
      have hX : w.heap.size ≤ w1.heap.size := h1.size
      clear h1
      go_loopw [7, 8, 9, 10, 11] (fun fr t b d a wr => ∃ (i : Nat) (xf xt xb xd : Int) (f : F), fr = .int .i64 xf ∧ t = .int .i64 xt ∧ b = .int .i64 xb ∧ d = .int .i64 xd ∧ a = .int .i64 i ∧ i ≤ len1 ∧ GoInv xf xt xb xd f ∧ Hid (J w wr [(w1.heap.size, #[.int .i64 f.a, .int .i64 f.t, .int .i64 f.l])])) (fun _ _ _ _ a _ => len1 - (intOf a).toNat)
      case atStart => exact ⟨0, 1, 0, 0, 0, ⟨1, 0, 0⟩, rfl, rfl, rfl, rfl, rfl, by omega, .inl ⟨1, rfl, rfl⟩, hj0⟩
      case round =>
        clear hj0
        obtain ⟨i, xf, xt, xb, xd, f, rfl, rfl, rfl, rfl, rfl, hi, hinv, hj⟩ := hrel
        by_cases hlt : i < len1
        · have hiz : i < z1.length := by rw [HL1.out]; exact hlt
          obtain ⟨b1, p1, rfl, hb1, k0, k1, k2⟩ := sp_cells HS1.out i z1[i] (List.getElem?_eq_getElem hiz)
          generalize z1[i] = q at k0 k1 k2
          obtain ⟨qw, qs, qd⟩ := q
          simp only at k0 k1 k2
          have HC0 := Lib.hid k0
          have HC1 := Lib.hid k1
          have HC2 := Lib.hid k2
          clear k0 k1 k2 hiz
          have i1 : (i : Int) < (len1 : Int) := by omega
          have e3 : IntKind.i64.wrap ((i : Int) + 1) = ((i + 1 : Nat) : Int) := by rw [IntWalk.i64_in _ (by omega)]; rfl
          rcases hinv with ⟨a, rfl, ha⟩ | ⟨l, rfl, ht, hf, l1, hs, hb, hd⟩
          · have HS := Lib.hid (fun W => Step_any ⟨a, 0, 0⟩ (by simp only; omega) qw qs qd W)
            have HP := Lib.hid (fun W => Power_any ⟨a, 0, 0⟩ true true W)
            unfold val at HS HP
            simp only at HS HP hj
            rw [pw_src ha] at HP
            have a0 : (a == 0) = false := by rcases src_yes ha with rfl | rfl <;> rfl
            have a0' : (a != 0) = true := by rcases src_yes ha with rfl | rfl <;> rfl
            have aa : (a == a) = true := by simp
            cases hg : goes a qw qs with
            | false =>
              rw [st_stay (f := ⟨a, 0, 0⟩) qd ha hg] at HS
              simp only at HS
              clear hg
              have hjl : Hid (JS w _ _) := Lib.hid (hj.out.push #[.int .i64 a, .int .i64 0, .int .i64 0] 23)
              obtain ⟨c0, c1, c2⟩ := (hj.out.bx 0 rfl).c3
              have hltX := (hj.out.bx 0 rfl).lt
              have hneX : wr.heap.size ≠ w1.heap.size := by omega
              clear hj
              go_wp2
              refine wp_region_tail 17 _ JS.closed hjl.out (by kernel_rfl) (by kernel_rfl) ?_
              simp only [List.take_succ_cons, List.take_zero, List.drop_succ_cons, List.drop_zero]
              apply Exists.intro
              refine ⟨fun w3 h3 => ?_, fun W3 hJ3 hb3 => ?_⟩
              · haveI := Ext.some h3
                obtain ⟨q0, q1, q2⟩ := ext3 h3 1 rfl
                have m0 := ext_old h3 (a := ⟨b1, p1 + i * 3, none⟩) hb1 HC0.out
                have m1 := ext_old h3 (a := ⟨b1, p1 + i * 3 + 1, none⟩) hb1 HC1.out
                have m2 := ext_old h3 (a := ⟨b1, p1 + i * 3 + 2, none⟩) hb1 HC2.out
                have k1 := Lib.hid (Ext.calls h3 JS.closed (fun W _ => HS.out W))
                repeat go_big_quiet_step (first | (go_at_call 10; with_reducible exact k1.out _))
                exact wpQuiet_nil rfl
              · clear c0 c1 c2
                obtain ⟨f0, f1, f2⟩ := (hJ3.bx 1 rfl).f3
                obtain ⟨b0, b1', b2⟩ := (hJ3.bx 1 rfl).c3
                obtain ⟨v0, v1, v2⟩ := (hJ3.bx 0 rfl).c3
                have hj4 : Hid (JS w _ _) := Lib.hid (jput3b (x := .int .i64 a) (y := .int .i64 0) (z := .int .i64 0) hJ3 hX hneX)
                change wpList _ _ _ _ _ _
                go_wp2
                go_roundw
                case rel => exact ⟨i + 1, xf, xt, xb, xd, ⟨a, 0, 0⟩, rfl, rfl, rfl, rfl, rfl, by omega, .inl ⟨_, rfl, ha⟩, Lib.hid (jhead hj4.out)⟩
                case measure => simp [intOf]; omega
            | true =>
              rw [st_go (f := ⟨a, 0, 0⟩) qd ha hg] at HS
              simp only at HS
              obtain ⟨hga, hgs, rfl⟩ := goes_yes hg
              clear hg
              have D1 := bd_ge qd
              have D2 := bd_le qd
              have m1 : ∀ W, (Builtin.max_ #[3, 3] 3 #[.int .i64 qd, .int .i64 1]).run Try.prog W = .ok (.int .i64 (max qd 1)) W := fun W => by
                rw [run_max_int2]; congr 2; split <;> omega
              have m2 : ∀ W, (Builtin.min_ #[3, 3] 3 #[.int .i64 (max qd 1), .int .i64 200]).run Try.prog W = .ok (.int .i64 (bd qd)) W := fun W => by
                rw [run_min_int2]; congr 2; unfold bd bo; split <;> omega
              generalize bd qd = D at *
              generalize max qd 1 = mq at *
              have ga : (qw == a) = false := by simpa using hga
              have d1 : ¬ D < 1 := by omega
              have hgs' := Lib.hid hgs
              clear hga hgs
              have hjl : Hid (JS w _ _) := Lib.hid (hj.out.push #[.int .i64 a, .int .i64 0, .int .i64 0] 23)
              obtain ⟨c0, c1, c2⟩ := (hj.out.bx 0 rfl).c3
              have hltX := (hj.out.bx 0 rfl).lt
              have hneX : wr.heap.size ≠ w1.heap.size := by omega
              clear hj
              go_wp2
              refine wp_region_tail 17 _ JS.closed hjl.out (by kernel_rfl) (by kernel_rfl) ?_
              simp only [List.take_succ_cons, List.take_zero, List.drop_succ_cons, List.drop_zero]
              apply Exists.intro
              refine ⟨fun w3 h3 => ?_, fun W3 hJ3 hb3 => ?_⟩
              · haveI := Ext.some h3
                obtain ⟨q0, q1, q2⟩ := ext3 h3 1 rfl
                have m0 := ext_old h3 (a := ⟨b1, p1 + i * 3, none⟩) hb1 HC0.out
                have m1 := ext_old h3 (a := ⟨b1, p1 + i * 3 + 1, none⟩) hb1 HC1.out
                have m2 := ext_old h3 (a := ⟨b1, p1 + i * 3 + 2, none⟩) hb1 HC2.out
                have k1 := Lib.hid (Ext.calls h3 JS.closed (fun W _ => HS.out W))
                repeat go_big_quiet_step (first | (go_at_call 10; with_reducible exact k1.out _))
                exact wpQuiet_nil rfl
              · clear c0 c1 c2
                obtain ⟨f0, f1, f2⟩ := (hJ3.bx 1 rfl).f3
                obtain ⟨b0, b1', b2⟩ := (hJ3.bx 1 rfl).c3
                obtain ⟨v0, v1, v2⟩ := (hJ3.bx 0 rfl).c3
                have hj4 : Hid (JS w _ _) := Lib.hid (jput3b (x := .int .i64 0) (y := .int .i64 qw) (z := .int .i64 D) hJ3 hX hneX)
                change wpList _ _ _ _ _ _
                go_wp2
                refine wp_region_all _ JS.closed hj4.out (by kernel_rfl) (by kernel_rfl) ?_
                apply Exists.intro
                refine ⟨fun w9 h9 => ?_, fun W9 hJ9 hb9 => ?_⟩
                · haveI := Ext.some h9
                  obtain ⟨q0, q1, q2⟩ := ext3 h9 1 rfl
                  have m0 := ext_old h9 (a := ⟨b1, p1 + i * 3, none⟩) hb1 HC0.out
                  have m1 := ext_old h9 (a := ⟨b1, p1 + i * 3 + 1, none⟩) hb1 HC1.out
                  have m2 := ext_old h9 (a := ⟨b1, p1 + i * 3 + 2, none⟩) hb1 HC2.out
                  have k1 := Lib.hid (Ext.calls h9 JS.closed (fun W _ => HP.out W))
                  repeat go_big_quiet_step (first | (go_at_call 13; with_reducible exact k1.out _))
                  exact wpQuiet_nil rfl
                · clear f0 f1 f2 b0 b1' b2 v0 v1 v2
                  have hj5 : Hid (J w W9 _) := Lib.hid hJ9
                  obtain ⟨b0, b1', b2⟩ := (hj5.out.bx 0 rfl).c3
                  obtain ⟨v0, v1, v2⟩ := (hj5.out.bx 1 rfl).c3
                  have m0 := (hj5.out.below.cell (p := ⟨b1, p1 + i * 3, none⟩) hb1).trans HC0.out
                  have m1' := (hj5.out.below.cell (p := ⟨b1, p1 + i * 3 + 1, none⟩) hb1).trans HC1.out
                  have m2' := (hj5.out.below.cell (p := ⟨b1, p1 + i * 3 + 2, none⟩) hb1).trans HC2.out
                  go_wp2_with (go_at_call 13; (with_reducible refine (HP0.out _ _ _).mono ?_); rintro e5 w5 ⟨rfl, h5⟩; have hj6 := Lib.hid (hj5.out.next h5))
                  go_roundw
                  case rel => exact ⟨i + 1, a, qw, 1, D, ⟨0, qw, D⟩, rfl, rfl, rfl, rfl, rfl, by omega, .inr ⟨D, rfl, hgs'.out, by simpa using ga, D1, by omega, by omega, D2⟩, Lib.hid (jhead hj6.out)⟩
                  case measure => simp [intOf]; omega
          · have HS := Lib.hid (fun W => Step_any ⟨0, xt, l⟩ (by simp only; omega) qw qs qd W)
            rw [st_nr (f := ⟨0, xt, l⟩) rfl] at HS
            unfold val at HS
            simp only at HS hj
            by_cases k : 1 < l
            · have e5 : nr ⟨0, xt, l⟩ = ⟨0, xt, l - 1⟩ := by unfold nr; rw [if_pos k]
              rw [e5] at HS
              simp only at HS
              obtain ⟨l', hl'⟩ : ∃ l', l - 1 = l' := ⟨_, rfl⟩
              rw [hl'] at HS
              have HQ := Lib.hid (show src xt = true ∧ ¬ xt = xf ∧ 1 ≤ l' ∧ xb + 1 + l' = xd + 1 ∧ 1 ≤ xb + 1 ∧ xd ≤ 200 from ⟨ht, hf, by omega, by omega, by omega, hd⟩)
              have e6 : IntKind.i64.wrap (xb + 1) = xb + 1 := IntWalk.i64_in _ (by omega)
              have e7 : ¬ xd < xb + 1 := by omega
              clear e5 hl' ht hf l1 hs hb hd k
              have hjl : Hid (JS w _ _) := Lib.hid (hj.out.push #[.int .i64 0, .int .i64 xt, .int .i64 l] 23)
              obtain ⟨c0, c1, c2⟩ := (hj.out.bx 0 rfl).c3
              have hltX := (hj.out.bx 0 rfl).lt
              have hneX : wr.heap.size ≠ w1.heap.size := by omega
              clear hj
              go_wp2
              refine wp_region_tail 17 _ JS.closed hjl.out (by kernel_rfl) (by kernel_rfl) ?_
              simp only [List.take_succ_cons, List.take_zero, List.drop_succ_cons, List.drop_zero]
              apply Exists.intro
              refine ⟨fun w3 h3 => ?_, fun W3 hJ3 hb3 => ?_⟩
              · haveI := Ext.some h3
                obtain ⟨q0, q1, q2⟩ := ext3 h3 1 rfl
                have m0 := ext_old h3 (a := ⟨b1, p1 + i * 3, none⟩) hb1 HC0.out
                have m1 := ext_old h3 (a := ⟨b1, p1 + i * 3 + 1, none⟩) hb1 HC1.out
                have m2 := ext_old h3 (a := ⟨b1, p1 + i * 3 + 2, none⟩) hb1 HC2.out
                have k1 := Lib.hid (Ext.calls h3 JS.closed (fun W _ => HS.out W))
                repeat go_big_quiet_step (first | (go_at_call 10; with_reducible exact k1.out _))
                exact wpQuiet_nil rfl
              · clear c0 c1 c2
                obtain ⟨f0, f1, f2⟩ := (hJ3.bx 1 rfl).f3
                obtain ⟨b0, b1', b2⟩ := (hJ3.bx 1 rfl).c3
                obtain ⟨v0, v1, v2⟩ := (hJ3.bx 0 rfl).c3
                have hj4 : Hid (JS w _ _) := Lib.hid (jput3b (x := .int .i64 0) (y := .int .i64 xt) (z := .int .i64 l') hJ3 hX hneX)
                change wpList _ _ _ _ _ _
                go_wp2_with (go_at_call 13; (with_reducible refine (HP0.out _ _ _).mono ?_); rintro e5 w5 ⟨rfl, h5⟩; have hj5 := Lib.hid (J.next hj4.out h5))
                go_roundw
                case rel => exact ⟨i + 1, xf, xt, xb + 1, xd, ⟨0, xt, l'⟩, rfl, rfl, rfl, rfl, rfl, by omega, .inr ⟨l', rfl, HQ.out⟩, Lib.hid (jhead hj5.out)⟩
                case measure => simp [intOf]; omega
            · have e5 : nr ⟨0, xt, l⟩ = ⟨xt, 0, 0⟩ := by unfold nr; rw [if_neg k, if_pos ht]
              rw [e5] at HS
              simp only at HS
              have hbd : xb = xd := by omega
              subst hbd
              have x0 : (xt == 0) = false := by rcases src_yes ht with rfl | rfl <;> rfl
              have x1 : (xt == xt) = true := by simp
              have x2 : (xb == xb) = true := by simp
              have x3 : (xt == xf) = false := by simpa using hf
              have HQ := Lib.hid ht
              clear e5 ht hf l1 hs hb hd k
              have hjl : Hid (JS w _ _) := Lib.hid (hj.out.push #[.int .i64 0, .int .i64 xt, .int .i64 l] 23)
              obtain ⟨c0, c1, c2⟩ := (hj.out.bx 0 rfl).c3
              have hltX := (hj.out.bx 0 rfl).lt
              have hneX : wr.heap.size ≠ w1.heap.size := by omega
              clear hj
              go_wp2
              refine wp_region_tail 17 _ JS.closed hjl.out (by kernel_rfl) (by kernel_rfl) ?_
              simp only [List.take_succ_cons, List.take_zero, List.drop_succ_cons, List.drop_zero]
              apply Exists.intro
              refine ⟨fun w3 h3 => ?_, fun W3 hJ3 hb3 => ?_⟩
              · haveI := Ext.some h3
                obtain ⟨q0, q1, q2⟩ := ext3 h3 1 rfl
                have m0 := ext_old h3 (a := ⟨b1, p1 + i * 3, none⟩) hb1 HC0.out
                have m1 := ext_old h3 (a := ⟨b1, p1 + i * 3 + 1, none⟩) hb1 HC1.out
                have m2 := ext_old h3 (a := ⟨b1, p1 + i * 3 + 2, none⟩) hb1 HC2.out
                have k1 := Lib.hid (Ext.calls h3 JS.closed (fun W _ => HS.out W))
                repeat go_big_quiet_step (first | (go_at_call 10; with_reducible exact k1.out _))
                exact wpQuiet_nil rfl
              · clear c0 c1 c2
                obtain ⟨f0, f1, f2⟩ := (hJ3.bx 1 rfl).f3
                obtain ⟨b0, b1', b2⟩ := (hJ3.bx 1 rfl).c3
                obtain ⟨v0, v1, v2⟩ := (hJ3.bx 0 rfl).c3
                have hj4 : Hid (JS w _ _) := Lib.hid (jput3b (x := .int .i64 xt) (y := .int .i64 0) (z := .int .i64 0) hJ3 hX hneX)
                change wpList _ _ _ _ _ _
                go_wp2
                go_roundw
                case rel => exact ⟨i + 1, xf, xt, xb, xb, ⟨xt, 0, 0⟩, rfl, rfl, rfl, rfl, rfl, by omega, .inl ⟨_, rfl, HQ.out⟩, Lib.hid (jhead hj4.out)⟩
                case measure => simp [intOf]; omega
        · obtain rfl : i = len1 := by omega
          go_wp2
          go_ret
          exact ⟨rfl, hj.out.below⟩
end Go.Proofs.Ytfcdfkodafikdaa.Walk
