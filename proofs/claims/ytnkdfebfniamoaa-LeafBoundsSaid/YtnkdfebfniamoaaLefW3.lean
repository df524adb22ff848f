/- The walk of LeafBounds. -/
import Derived.Test.YtnkdfebfniamoaaLefA
import Derived.Test.YtnkdfebfniamoaaOpen
import Derived.OpenShut
import Derived.LoopN
namespace Go.Proofs.Ytnkdfebfniamoaa.Walk
open Go.RowKit Go.ChangeShapes Go.Proofs.Ytnkdfebfniamoaa.LefP Go.Proofs.Ytnkdfebfniamoaa.Lef Go.Proofs.Ytnkdfebfniamoaa.Box Go.Proofs.Ytnkdfebfniamoaa.Held Go.Proofs.Ytnkdfebfniamoaa.Sees Go.Proofs.Ytnkdfebfniamoaa.Open
set_option linter.unusedVariables false

set_option maxRecDepth 100000 in
set_option maxHeartbeats 6400000 in
theorem leafBounds_walk (w : World) (wd : Int) (a1 : Option Addr) (len1 cap1 : Nat) (z1 : List Int) (b : Bool) (w0 : (Lit.int .u8 wd).wf = true)
    (hl1 : z1.length = len1) (hc1 : len1 ≤ cap1) (hx1 : cap1 ≤ maxLen) (hs1 : Sees w w.heap.size a1 (nums .i8 z1)) (hw1 : ∀ n ∈ z1, (Lit.int .i8 n).wf = true) :
    Calls Try.prog 5 #[.int .u8 wd, .slice a1 len1 cap1, .bool b] w fun e w' => e = .returned (.bool true) ∧ Below w.heap.size w w' := by
  have hwd := bounds_u8 w0
  unfold maxLen at hx1
  have HL1 := Lib.hid hl1
  have HS1 := Lib.hid hs1
  have HW1 := Lib.hid hw1
  clear w0 hl1 hs1 hw1
  have HA : Hid (∀ W, Calls Try.prog 7 #[] W (Says W (.bool true))) := Lib.hid fun W => awake_any W
  by_cases hbig : 200 < len1
  · go_enter Try.func5, Try.ntmps5
    go_wp2_with (go_at_call 7; refine (HA.out _).mono ?_; rintro e w1 ⟨rfl, h1⟩)
    go_ret
    exact ⟨rfl, h1⟩
  · have g1 : ¬ (200 : Int) < (len1 : Int) := by omega
    obtain ⟨n, hn⟩ : ∃ n, wd % 16 = n := ⟨_, rfl⟩
    have t1 : wd.tmod 16 = n := by rw [Int.tmod_eq_emod_of_nonneg (by omega)]; exact hn
    have t2 : IntKind.u8.wrap n = n := IntWalk.u8_in _ (by omega)
    have t3 : IntKind.i64.wrap n = n := IntWalk.i64_in _ (by omega)
    obtain ⟨d, hd⟩ : ∃ d, n + 1 = d := ⟨_, rfl⟩
    have t4 : IntKind.i64.wrap (n + 1) = d := by rw [hd]; exact IntWalk.i64_in _ (by omega)
    have d0 : 1 ≤ d := by omega
    have d1 : d ≤ 16 := by omega
    clear hn hd hwd
    go_enter Try.func5, Try.ntmps5
    go_wp2_with (go_at_call 7; refine (HA.out _).mono ?_; rintro e w1 ⟨rfl, h1⟩)
    have hj0 := Lib.hid (((J.start w).next h1).push #[.int .i64 0, .int .i64 d] 24)
    have hX : w.heap.size ≤ w1.heap.size := h1.size
    go_loopw [9] (fun a wr => ∃ (i : Nat) (o : Int), a = .int .i64 i ∧ i ≤ len1 ∧ 0 ≤ o ∧ o ≤ d ∧ Hid (J w wr [(w1.heap.size, #[.int .i64 o, .int .i64 d])])) (fun a _ => len1 - (intOf a).toNat)
    case atStart => exact ⟨0, 0, rfl, by omega, by omega, by omega, hj0⟩
    case round =>
      obtain ⟨i, o, rfl, hi, o0, o1, hj⟩ := hrel
      by_cases hlt : i < len1
      · obtain ⟨b1, p1, rfl, hb1, hcell1⟩ := HS1.out.at_ (nums_at .i8 z1 i (by rw [HL1.out]; exact hlt))
        have hv := bounds_i8 (HW1.out (z1[i]?.getD 0) (by have : i < z1.length := by rw [HL1.out]; exact hlt
                                                          simp [this]))
        generalize z1[i]?.getD 0 = v at *
        have HC1 := Lib.hid hcell1
        clear hcell1
        have i1 : (i : Int) < (len1 : Int) := by omega
        have e3 : IntKind.i64.wrap ((i : Int) + 1) = ((i + 1 : Nat) : Int) := by rw [IntWalk.i64_in _ (by omega)]; rfl
        have e4 : IntKind.i64.wrap v = v := IntWalk.i64_in _ (by omega)
        obtain ⟨r, hr⟩ : ∃ r, (i : Int) % 2 = r := ⟨_, rfl⟩
        have e5 : (i : Int).tmod 2 = r := by rw [Int.tmod_eq_emod_of_nonneg (by omega)]; exact hr
        have e6 : IntKind.i64.wrap r = r := IntWalk.i64_in _ (by omega)
        have hm : L.May ⟨o, d⟩ := ⟨o0, o1, d0, d1⟩
        have HS : Hid (∀ c W, Calls Try.prog 8 #[.agg #[.int .i64 o, .int .i64 d], .int .i64 v, .bool c] W (Says W (.agg #[.int .i64 (so o d v c), .int .i64 d]))) := Lib.hid fun c W => Step_any ⟨o, d⟩ hm v c W
        have key : ∀ c, 0 ≤ so o d v c ∧ so o d v c ≤ d ∧ so o d v c - o ≤ 1 ∧ o - so o d v c ≤ 1 := fun c => so_bd v c o0 o1
        have kc : ∃ c, (b = true ∧ (r == 0) = c) ∨ (b = false ∧ c = false) := by cases b with
          | true => exact ⟨_, .inl ⟨rfl, rfl⟩⟩
          | false => exact ⟨_, .inr ⟨rfl, rfl⟩⟩
        obtain ⟨c, kc⟩ := kc
        have HS' := Lib.hid (HS.out c)
        obtain ⟨x0, x1, x2, x3⟩ := key c
        clear HS key hm hr
        generalize so o d v c = x at *
        have HH : Hid (∀ W, Calls Try.prog 10 #[.agg #[.int .i64 x, .int .i64 d]] W (Says W (.bool (decide (x = 0))))) := Lib.hid fun W => Shut_any ⟨x, d⟩ W
        have HW : Hid (∀ W, Calls Try.prog 11 #[.agg #[.int .i64 x, .int .i64 d]] W (Says W (.bool (decide (x = d))))) := Lib.hid fun W => Wide_any ⟨x, d⟩ W
        obtain ⟨y, hy⟩ : ∃ y, d - x = y := ⟨_, rfl⟩
        have HLf : Hid (∀ W, Calls Try.prog 12 #[.agg #[.int .i64 x, .int .i64 d]] W (Says W (.int .i64 y))) := Lib.hid fun W => by
          have := Left_any ⟨x, d⟩ ⟨x0, x1, d0, d1⟩ W; rwa [hy] at this
        obtain ⟨s1, hs1⟩ : ∃ s, x - o = s := ⟨_, rfl⟩
        obtain ⟨s2, hs2⟩ : ∃ s, o - x = s := ⟨_, rfl⟩
        have f1 : IntKind.i64.wrap (x - o) = s1 := by rw [hs1]; exact IntWalk.i64_in _ (by omega)
        have f2 : IntKind.i64.wrap (o - x) = s2 := by rw [hs2]; exact IntWalk.i64_in _ (by omega)
        have f3 : IntKind.i64.wrap (y + x) = d := by rw [show y + x = d by omega]; exact IntWalk.i64_in _ (by omega)
        have f4 : decide (x < 0) = false := by simp; omega
        have f5 : decide (d < x) = false := by simp; omega
        have f6 : decide (1 < s1) = false := by simp; omega
        have f7 : decide (1 < s2) = false := by simp; omega
        have kd : (decide (x = 0) = true ∧ decide (x = d) = false) ∨ (decide (x = 0) = false) := by
          simp only [decide_eq_true_eq, decide_eq_false_iff_not]; omega
        clear hy hs1 hs2 x2 x3
        have hjl : Hid (JS w [(w1.heap.size, #[.int .i64 o, .int .i64 d])] wr) := hj
        clear hj
        rcases kc with ⟨rfl, kc⟩ | ⟨rfl, rfl⟩
        all_goals
          rcases kd with ⟨kd, ke⟩ | kd
          all_goals
            rw [kd] at HH
            try rw [ke] at HW
            clear kd
            go_wp2
            refine wp_region_lay 13 _ #[.int .i64 0, .int .i64 0] 24 _ 10 JS.closed hjl.out (by kernel_rfl) (by kernel_rfl) rfl rfl rfl (fun ρ w' => by simp [execOp, go_sem]) ?_
            simp only [List.take_succ_cons, List.take_zero, List.drop_succ_cons, List.drop_zero]
            apply Exists.intro
            refine ⟨fun w3 h3 => ?_, fun B W3 hJ3 hz3 hB hbx => ?_⟩
            · haveI := Ext.some h3
              obtain ⟨q0, q1⟩ := ext2 h3 0 rfl
              have m1 := ext_old h3 (a := ⟨b1, p1 + i, none⟩) hb1 HC1.out
              have c1 := Lib.hid (Ext.calls h3 JS.closed (fun W _ => HS'.out W))
              repeat go_big_quiet_step (first | (go_at_call 8; with_reducible exact c1.out _))
              exact wpQuiet_nil rfl
            · have hXB : w.heap.size ≤ B := Nat.le_trans hjl.out.below.size hB
              have hlt1 := (hjl.out.bx 0 rfl).lt
              have hne : ∀ x ∈ [(w1.heap.size, (#[.int .i64 o, .int .i64 d] : Array Value))], x.1 ≠ B := fun x hx => by
                simp at hx; subst hx; simp only; omega
              have hne2 : ∀ y ∈ [(B, (#[.int .i64 x, .int .i64 d] : Array Value))], y.1 ≠ w1.heap.size := fun y hy => by
                simp at hy; subst hy; simp only; omega
              obtain ⟨f0, f1⟩ := hbx.f2
              obtain ⟨b0, b1⟩ := hbx.c2
              have hj6 : Hid (JS w _ _) := Lib.hid (jfill2 (J.more hJ3 hbx) (x := .int .i64 x) (y := .int .i64 d) hXB hne)
              change wpList _ _ _ _ _ _
              go_wp2
              refine wp_region_all _ JS.closed hj6.out (by kernel_rfl) (by kernel_rfl) ?_
              apply Exists.intro
              refine ⟨fun w9 h9 => ?_, fun W9 hJ9 hb9 => ?_⟩
              · haveI := Ext.some h9
                obtain ⟨q0, q1⟩ := ext2 h9 0 rfl
                obtain ⟨q3, q4⟩ := ext2 h9 1 rfl
                have cH := Lib.hid (Ext.calls h9 JS.closed (fun W _ => HH.out W))
                have cW := Lib.hid (Ext.calls h9 JS.closed (fun W _ => HW.out W))
                have cL := Lib.hid (Ext.calls h9 JS.closed (fun W _ => HLf.out W))
                repeat go_big_quiet_step (first | (go_at_call 10; with_reducible exact cH.out _) | (go_at_call 11; with_reducible exact cW.out _) | (go_at_call 12; with_reducible exact cL.out _))
                exact wpQuiet_nil rfl
              · clear b0 b1 f0 f1
                obtain ⟨b0, b1⟩ := (hJ9.bx 0 rfl).c2
                obtain ⟨a0, a1⟩ := (hJ9.bx 1 rfl).c2
                obtain ⟨g0, g1⟩ := (hJ9.bx 1 rfl).f2
                go_wp2
                go_roundw
                case rel => exact ⟨i + 1, _, rfl, by omega, by omega, by omega, Lib.hid (jhead (jfill2 (jswap hJ9) hX hne2))⟩
                case measure => simp [intOf]; omega
      · obtain rfl : i = len1 := by omega
        go_wp2
        go_ret
        exact ⟨rfl, hj.out.below⟩

end Go.Proofs.Ytnkdfebfniamoaa.Walk
