/- The walk of LeafTakes. -/
import Derived.Test.YtnkdfebfniamoaaLefA
import Derived.Test.YtnkdfebfniamoaaOpenB
import Derived.OpenShut
import Derived.LoopN
namespace Go.Proofs.Ytnkdfebfniamoaa.Walk
open Go.RowKit Go.ChangeShapes Go.Proofs.Ytnkdfebfniamoaa.LefP Go.Proofs.Ytnkdfebfniamoaa.Lef Go.Proofs.Ytnkdfebfniamoaa.Box Go.Proofs.Ytnkdfebfniamoaa.Held Go.Proofs.Ytnkdfebfniamoaa.Sees Go.Proofs.Ytnkdfebfniamoaa.Open
set_option linter.unusedVariables false

theorem bools_at (l : List Bool) (j : Nat) (h : j < l.length) : (bools l)[j]? = some (.bool (l[j]?.getD false)) := by
  simp [bools, h]
theorem so_opens {o d : Int} (b : Bool) (h : o < d) : so o d 1 b = o + 1 := by unfold so; rw [if_pos rfl, if_pos h]
theorem so_shuts {o d g : Int} (b : Bool) (h : o = max (d - g) 0) (g0 : 0 ≤ g) : so o d 2 b = max (d - (if b then g else g + 1)) 0 := by
  unfold so; rw [if_neg (by decide), if_pos rfl]
  cases b with
  | true => simpa using h
  | false => simp only [Bool.false_eq_true, if_false]; split <;> omega

set_option maxRecDepth 100000 in
set_option maxHeartbeats 6400000 in
theorem leafTakes_walk (w : World) (op wd : Int) (a2 : Option Addr) (len2 cap2 : Nat) (z2 : List Bool) (w0 : (Lit.int .u8 op).wf = true) (w1 : (Lit.int .u8 wd).wf = true)
    (hl2 : z2.length = len2) (hc2 : len2 ≤ cap2) (hx2 : cap2 ≤ maxLen) (hs2 : Sees w w.heap.size a2 (bools z2)) :
    Calls Try.prog 4 #[.int .u8 op, .int .u8 wd, .slice a2 len2 cap2] w fun e w' => e = .returned (.bool true) ∧ Below w.heap.size w w' := by
  have hop := bounds_u8 w0
  have hwd := bounds_u8 w1
  unfold maxLen at hx2
  have HL2 := Lib.hid hl2
  have HS2 := Lib.hid hs2
  clear w0 w1 hl2 hs2
  have HA : Hid (∀ W, Calls Try.prog 7 #[] W (Says W (.bool true))) := Lib.hid fun W => awake_any W
  by_cases hbig : 200 < len2
  · go_enter Try.func4, Try.ntmps4
    go_wp2_with (go_at_call 7; refine (HA.out _).mono ?_; rintro e w1 ⟨rfl, h1⟩)
    go_ret
    exact ⟨rfl, h1⟩
  · have g1 : ¬ (200 : Int) < (len2 : Int) := by omega
    obtain ⟨n, hn⟩ : ∃ n, wd % 16 = n := ⟨_, rfl⟩
    have t1 : wd.tmod 16 = n := by rw [Int.tmod_eq_emod_of_nonneg (by omega)]; exact hn
    have t2 : IntKind.u8.wrap n = n := IntWalk.u8_in _ (by omega)
    have t3 : IntKind.i64.wrap n = n := IntWalk.i64_in _ (by omega)
    obtain ⟨d, hd⟩ : ∃ d, n + 1 = d := ⟨_, rfl⟩
    have t4 : IntKind.i64.wrap (n + 1) = d := by rw [hd]; exact IntWalk.i64_in _ (by omega)
    have t5 : IntKind.i64.wrap op = op := IntWalk.i64_in _ (by omega)
    obtain ⟨e, he⟩ : ∃ e, d + 1 = e := ⟨_, rfl⟩
    have t6 : IntKind.i64.wrap (d + 1) = e := by rw [he]; exact IntWalk.i64_in _ (by omega)
    have e0 : (e == 0) = false := by rw [beq_eq_false_iff_ne]; omega
    have e0' : e ≠ 0 := by omega
    obtain ⟨o, ho⟩ : ∃ o, op % e = o := ⟨_, rfl⟩
    have o0 : 0 ≤ o := by rw [← ho]; exact Int.emod_nonneg _ e0'
    have o1 : o ≤ d := by have := Int.emod_lt_of_pos op (show 0 < e by omega); omega
    have t7 : op.tmod e = o := by rw [Int.tmod_eq_emod_of_nonneg (by omega)]; exact ho
    have t8 : IntKind.i64.wrap o = o := IntWalk.i64_in _ (by omega)
    have d0 : 1 ≤ d := by omega
    have d1 : d ≤ 16 := by omega
    obtain ⟨y, hy⟩ : ∃ y, d - o = y := ⟨_, rfl⟩
    have HLf : Hid (∀ W bs, Hid (J w W bs) → Calls Try.prog 12 #[.agg #[.int .i64 o, .int .i64 d]] W fun e W' => e = .returned (.int .i64 y) ∧ Hid (J w W' bs)) := Lib.hid fun W bs h => by
      have := j_of h (Left_any ⟨o, d⟩ ⟨o0, o1, d0, d1⟩ W); rwa [show (L.d ⟨o, d⟩ - L.o ⟨o, d⟩ : Int) = y from hy] at this
    have HW : Hid (∀ x W bs, Hid (J w W bs) → Calls Try.prog 11 #[.agg #[.int .i64 x, .int .i64 d]] W fun e W' => e = .returned (.bool (decide (x = d))) ∧ Hid (J w W' bs)) := Lib.hid fun x W bs h => j_of h (Wide_any ⟨x, d⟩ W)
    have HH : Hid (∀ x W bs, Hid (J w W bs) → Calls Try.prog 10 #[.agg #[.int .i64 x, .int .i64 d]] W fun e W' => e = .returned (.bool (decide (x = 0))) ∧ Hid (J w W' bs)) := Lib.hid fun x W bs h => j_of h (Shut_any ⟨x, d⟩ W)
    have HS : Hid (∀ x v c W, 0 ≤ x → x ≤ d → Calls Try.prog 8 #[.agg #[.int .i64 x, .int .i64 d], .int .i64 v, .bool c] W (Says W (.agg #[.int .i64 (so x d v c), .int .i64 d]))) := Lib.hid fun x v c W h0 h1 => Step_any ⟨x, d⟩ ⟨h0, h1, d0, d1⟩ v c W
    clear hn hd he ho hop hwd
    go_enter Try.func4, Try.ntmps4
    go_wp2_with (go_at_call 7; refine (HA.out _).mono ?_; rintro e w1 ⟨rfl, h1⟩)
    have hX : w.heap.size ≤ w1.heap.size + 1 := Nat.le_succ_of_le h1.size
    have hj0 := Lib.hid ((((J.start w).next h1).push #[.int .i64 o, .int .i64 d] 24).push #[.int .i64 o, .int .i64 d] 24)
    have hne : ∀ y ∈ [(w1.heap.size, (#[.int .i64 o, .int .i64 d] : Array Value))], y.1 ≠ w1.heap.size + 1 := fun y hy => by
      simp at hy; subst hy; simp
    go_loopw [11] (fun a wr => ∃ (i : Nat), a = .int .i64 i ∧ (i : Int) ≤ y ∧ Hid (J w wr [(w1.heap.size + 1, #[.int .i64 (o + i), .int .i64 d]), (w1.heap.size, #[.int .i64 o, .int .i64 d])])) (fun a _ => y.toNat - (intOf a).toNat)
    case atStart => exact ⟨0, rfl, by omega, by simpa using hj0⟩
    case round =>
      obtain ⟨i, rfl, hi, hj⟩ := hrel
      obtain ⟨x, hx⟩ : ∃ x, o + (i : Int) = x := ⟨_, rfl⟩
      rw [hx] at hj
      obtain ⟨a0, a1⟩ := (hj.out.bx 1 rfl).c2
      by_cases hlt : (i : Int) < y
      · have HW1 : Hid (∀ W bs, Hid (J w W bs) → Calls Try.prog 11 #[.agg #[.int .i64 x, .int .i64 d]] W fun e W' => e = .returned (.bool false) ∧ Hid (J w W' bs)) := Lib.hid fun W bs h => by
          have := HW.out x W bs h; rwa [show decide (x = d) = false by simp; omega] at this
        have HS1 : Hid (∀ W, Calls Try.prog 8 #[.agg #[.int .i64 x, .int .i64 d], .int .i64 1, .bool true] W (Says W (.agg #[.int .i64 (x + 1), .int .i64 d]))) := Lib.hid fun W => by
          have := HS.out x 1 true W (by omega) (by omega); rwa [so_opens true (by omega)] at this
        have e3 : IntKind.i64.wrap ((i : Int) + 1) = ((i + 1 : Nat) : Int) := by rw [IntWalk.i64_in _ (by omega)]; rfl
        go_wp2_with (first
          | (go_at_call 12; (with_reducible refine (HLf.out _ _ hj).mono ?_); clear hj a0 a1; rintro e w2 ⟨rfl, hj2⟩; obtain ⟨a0, a1⟩ := (hj2.out.bx 0 rfl).c2)
          | (go_at_call 11; (with_reducible refine (HW1.out _ _ hj2).mono ?_); clear hj2 a0 a1; rintro e w3 ⟨rfl, hj3⟩; obtain ⟨a0, a1⟩ := (hj3.out.bx 0 rfl).c2)
          | (go_at_call 8; (with_reducible refine (HS1.out _).mono ?_); clear a0 a1; rintro e w4 ⟨rfl, h4⟩; have hj4 := Lib.hid (hj3.out.next h4); clear h4 hj3; obtain ⟨a0, a1⟩ := (hj4.out.bx 0 rfl).c2; obtain ⟨f0, f1⟩ := (hj4.out.bx 0 rfl).f2))
        go_roundw
        case rel => exact ⟨i + 1, rfl, by omega, Lib.hid (by have := jfill2 (x := .int .i64 (x + 1)) (y := .int .i64 d) hj4.out hX hne; rwa [show x + 1 = o + ((i + 1 : Nat) : Int) by omega] at this ⊢)⟩
        case measure => simp [intOf]; omega
      · obtain rfl : x = d := by omega
        have HW1 : Hid (∀ W bs, Hid (J w W bs) → Calls Try.prog 11 #[.agg #[.int .i64 x, .int .i64 x]] W fun e W' => e = .returned (.bool true) ∧ Hid (J w W' bs)) := Lib.hid fun W bs h => by
          have := HW.out x W bs h; rwa [show decide (x = x) = true by simp] at this
        go_wp2_with (first
          | (go_at_call 12; (with_reducible refine (HLf.out _ _ hj).mono ?_); clear hj a0 a1; rintro e w2 ⟨rfl, hj2⟩; obtain ⟨a0, a1⟩ := (hj2.out.bx 0 rfl).c2)
          | (go_at_call 11; (with_reducible refine (HW1.out _ _ hj2).mono ?_); clear hj2 a0 a1; rintro e w3 ⟨rfl, hj3⟩))
        have hj5 : Hid (J w w3 [(w1.heap.size + 1, #[.int .i64 x, .int .i64 x])]) := Lib.hid (jhead hj3.out)
        clear hj3 hx hlt HW HW1 HLf hi hne hj0
        go_loopw [12, 13] (fun a b wr => ∃ (g i : Nat) (q : Int), a = .int .i64 g ∧ b = .int .i64 i ∧ i ≤ len2 ∧ g ≤ i ∧ q = max (x - g) 0 ∧ Hid (J w wr [(w1.heap.size + 1, #[.int .i64 q, .int .i64 x])])) (fun _ b _ => len2 - (intOf b).toNat)
        case atStart => exact ⟨0, 0, x, rfl, rfl, by omega, by omega, by omega, hj5⟩
        case round =>
          obtain ⟨g, k, q, rfl, rfl, hk, hg, hq, hj⟩ := hrel
          by_cases hlt : k < len2
          · obtain ⟨b2, p2, rfl, hb2, hcell2⟩ := HS2.out.at_ (bools_at z2 k (by rw [HL2.out]; exact hlt))
            generalize z2[k]?.getD false = bl at *
            have HC2 := Lib.hid hcell2
            clear hcell2
            have i2 : (k : Int) < (len2 : Int) := by omega
            have e3 : IntKind.i64.wrap ((k : Int) + 1) = ((k + 1 : Nat) : Int) := by rw [IntWalk.i64_in _ (by omega)]; rfl
            have e4 : IntKind.i64.wrap ((g : Int) + 1) = ((g + 1 : Nat) : Int) := by rw [IntWalk.i64_in _ (by omega)]; rfl
            obtain ⟨g', hg'⟩ : ∃ g' : Nat, (if bl then g else g + 1) = g' := ⟨_, rfl⟩
            obtain ⟨q', hq'⟩ : ∃ q', max (x - (g' : Int)) 0 = q' := ⟨_, rfl⟩
            have hso : so q x 2 bl = q' := by
              rw [so_shuts bl hq (by omega), ← hq', ← hg']; split <;> simp
            have HS1 : Hid (∀ W, Calls Try.prog 8 #[.agg #[.int .i64 q, .int .i64 x], .int .i64 2, .bool bl] W (Says W (.agg #[.int .i64 q', .int .i64 x]))) := Lib.hid fun W => by
              have := HS.out q 2 bl W (by omega) (by omega); rwa [hso] at this
            have hge : decide (q' = 0) = decide (x ≤ (g' : Int)) := by
              rw [decide_eq_decide]; omega
            have HH1 : Hid (∀ W bs, Hid (J w W bs) → Calls Try.prog 10 #[.agg #[.int .i64 q', .int .i64 x]] W fun e W' => e = .returned (.bool (decide (x ≤ (g' : Int)))) ∧ Hid (J w W' bs)) := Lib.hid fun W bs h => by
              have := HH.out q' W bs h; rwa [hge] at this
            have hgi : g' ≤ k + 1 := by rw [← hg']; split <;> omega
            have u1 : IntKind.i64.wrap (x - (g' : Int)) = x - (g' : Int) := IntWalk.i64_in _ (by omega)
            have u2 : ∀ W, (Builtin.max_ #[3, 3] 3 #[.int .i64 (x - (g' : Int)), .int .i64 0]).run Try.prog W = .ok (.int .i64 q') W := fun W => by
              rw [run_max_int2]; congr 2; split <;> omega
            have hjl : Hid (JS w [(w1.heap.size + 1, #[.int .i64 q, .int .i64 x])] wr) := hj
            clear hj hso hge hq
            cases bl with
            | true =>
              simp only [if_true] at hg'
              subst hg'
              go_wp2
              refine wp_region_tail 6 _ JS.closed hjl.out (by kernel_rfl) (by kernel_rfl) ?_
              simp only [List.take_succ_cons, List.take_zero, List.drop_succ_cons, List.drop_zero]
              apply Exists.intro
              refine ⟨fun w3 h3 => ?_, fun W3 hJ3 hz3 => ?_⟩
              · haveI := Ext.some h3
                obtain ⟨q0, q1⟩ := ext2 h3 0 rfl
                have m2 := ext_old h3 (a := ⟨b2, p2 + k, none⟩) hb2 HC2.out
                have c1 := Lib.hid (Ext.calls h3 JS.closed (fun W _ => HS1.out W))
                repeat go_big_quiet_step (first | (go_at_call 8; with_reducible exact c1.out _))
                exact wpQuiet_nil rfl
              · have hj6 := Lib.hid (jfill2 (x := .int .i64 q') (y := .int .i64 x) hJ3 hX (fun x hx => by cases hx))
                have m3 : W3.cell? ⟨b2, p2 + k, none⟩ = some (.bool true) := ((J.below hJ3).cell hb2).trans HC2.out
                have m4 := ((J.below hj6.out).cell (p := ⟨b2, p2 + k, none⟩) hb2).trans HC2.out
                have hnb : b2 ≠ w1.heap.size + 1 := by omega
                obtain ⟨b0, b1⟩ := (hJ3.bx 0 rfl).c2
                obtain ⟨f0, f1⟩ := (hJ3.bx 0 rfl).f2
                change wpList _ _ _ _ _ _
                go_wp2_with (first
                  | (go_at_call 10; (with_reducible refine (HH1.out _ _ hj6).mono ?_); clear hj6 b0 b1 f0 f1 m3 m4; rintro e w5 ⟨rfl, hj7⟩; obtain ⟨b0, b1⟩ := (hj7.out.bx 0 rfl).c2))
                go_roundw
                case rel => exact ⟨g, k + 1, q', rfl, rfl, by omega, by omega, hq'.symm, hj7⟩
                case measure => simp [intOf]; omega
            | false =>
              simp only [Bool.false_eq_true, if_false] at hg'
              subst hg'
              go_wp2
              refine wp_region_tail 6 _ JS.closed hjl.out (by kernel_rfl) (by kernel_rfl) ?_
              simp only [List.take_succ_cons, List.take_zero, List.drop_succ_cons, List.drop_zero]
              apply Exists.intro
              refine ⟨fun w3 h3 => ?_, fun W3 hJ3 hz3 => ?_⟩
              · haveI := Ext.some h3
                obtain ⟨q0, q1⟩ := ext2 h3 0 rfl
                have m2 := ext_old h3 (a := ⟨b2, p2 + k, none⟩) hb2 HC2.out
                have c1 := Lib.hid (Ext.calls h3 JS.closed (fun W _ => HS1.out W))
                repeat go_big_quiet_step (first | (go_at_call 8; with_reducible exact c1.out _))
                exact wpQuiet_nil rfl
              · have hj6 := Lib.hid (jfill2 (x := .int .i64 q') (y := .int .i64 x) hJ3 hX (fun x hx => by cases hx))
                have m3 : W3.cell? ⟨b2, p2 + k, none⟩ = some (.bool false) := ((J.below hJ3).cell hb2).trans HC2.out
                have m4 := ((J.below hj6.out).cell (p := ⟨b2, p2 + k, none⟩) hb2).trans HC2.out
                have hnb : b2 ≠ w1.heap.size + 1 := by omega
                obtain ⟨b0, b1⟩ := (hJ3.bx 0 rfl).c2
                obtain ⟨f0, f1⟩ := (hJ3.bx 0 rfl).f2
                change wpList _ _ _ _ _ _
                go_wp2_with (first
                  | (go_at_call 10; (with_reducible refine (HH1.out _ _ hj6).mono ?_); clear hj6 b0 b1 f0 f1 m3 m4; rintro e w5 ⟨rfl, hj7⟩; obtain ⟨b0, b1⟩ := (hj7.out.bx 0 rfl).c2))
                go_roundw
                case rel => exact ⟨g + 1, k + 1, q', rfl, rfl, by omega, by omega, hq'.symm, hj7⟩
                case measure => simp [intOf]; omega
          · obtain rfl : k = len2 := by omega
            go_wp2
            go_ret
            exact ⟨rfl, hj.out.below⟩

end Go.Proofs.Ytnkdfebfniamoaa.Walk
