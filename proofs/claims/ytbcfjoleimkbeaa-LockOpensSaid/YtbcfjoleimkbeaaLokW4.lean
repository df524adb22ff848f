/- The walk of LockOpens. -/
import Derived.Test.YtbcfjoleimkbeaaLokB
import Derived.Test.YtbcfjoleimkbeaaLokO
import Derived.OpenShut
import Derived.LoopN
namespace Go.Proofs.Ytbcfjoleimkbeaa.Walk
open Go.RowKit Go.ChangeShapes Go.Proofs.Ytbcfjoleimkbeaa.CarP Go.Proofs.Ytbcfjoleimkbeaa.LefP Go.Proofs.Ytbcfjoleimkbeaa.LokP Go.Proofs.Ytbcfjoleimkbeaa.Lok Go.Proofs.Ytbcfjoleimkbeaa.Box Go.Proofs.Ytbcfjoleimkbeaa.Held Go.Proofs.Ytbcfjoleimkbeaa.Sees Go.Proofs.Ytbcfjoleimkbeaa.Open
set_option linter.unusedVariables false

/-- the last two of four, the other way round -/
theorem jlast42 {w W : World} {a b e f : Nat × Array Value} (h : J w W [a, b, e, f]) : J w W [f, e] := h.less fun x hx => by
  simp only [List.mem_cons, List.not_mem_nil, or_false] at hx ⊢
  rcases hx with h | h <;> simp [h]

set_option maxRecDepth 100000 in
set_option maxHeartbeats 6400000 in
theorem lockOpens_walk (w : World) (c : K) (l : L) (a1 : Option Addr) (len1 cap1 : Nat) (z1 : List Askd) (fl : Int)
    (hl1 : z1.length = len1) (hc1 : len1 ≤ cap1) (hx1 : cap1 ≤ maxLen) (hs1 : Sees w w.heap.size a1 (askds z1)) (u3 : (Lit.int .i64 fl).wf = true) :
    Calls Try.prog 5 #[Car.val c, Lef.val l, .slice a1 len1 cap1, .int .i64 fl] w fun e w' => e = .returned (.bool true) ∧ Below w.heap.size w w' := by
  unfold maxLen at hx1
  have HL1 := Lib.hid hl1
  have HS1 := Lib.hid hs1
  clear u3 hl1 hs1
  have HA : Hid (∀ W, Calls Try.prog 7 #[] W (Says W (.bool true))) := Lib.hid fun W => awake_any W
  have HMy : Hid (∀ W, Calls Try.prog 8 #[Car.val c, Lef.val l] W (Says W (.bool (both c l)))) := Lib.hid fun W => may_any c l W
  have hj := Lib.hid (J.two w (Car.arr c) (Lef.arr l) 23 25)
  by_cases hb : both c l = true
  · rw [hb] at HMy
    have HC := Lib.hid (both_may hb)
    clear hb
    have HF : Hid (∀ W, Calls Try.prog 12 #[Car.val c, Lef.val l] W (Says W (.bool (sf c l)))) := Lib.hid fun W => Safe_any c HC.out.1.p0 l W
    by_cases hbig : 100 < len1
    · obtain ⟨p, v, k⟩ := c
      obtain ⟨o, d⟩ := l
      unfold Car.val Car.arr Lef.val Lef.arr at *
      simp only at *
      go_enter Try.func5, Try.ntmps5
      go_wp2_with (first
        | (go_at_call 7; refine (HA.out _).mono ?_; clear HA; rintro e w1 ⟨rfl, h1⟩; have hj1 := Lib.hid (hj.out.next h1); clear h1 hj; obtain ⟨a0, a1, a2⟩ := (hj1.out.bx 1 rfl).c3; obtain ⟨b0, b1⟩ := (hj1.out.bx 0 rfl).c2)
        | (go_at_call 8; refine (HMy.out _).mono ?_; clear HMy; rintro e w2 ⟨rfl, h2⟩; have hj2 := Lib.hid (hj1.out.next h2)))
      go_ret
      exact ⟨rfl, hj2.out.below⟩
    · have g1 : ¬ (100 : Int) < (len1 : Int) := by omega
      by_cases hs : sf c l = true
      · rw [hs] at HF
        go_enter Try.func5, Try.ntmps5
        obtain ⟨p0, v0, k0⟩ := c
        obtain ⟨o0, d0⟩ := l
        unfold Car.val Car.arr Lef.val Lef.arr at *
        simp only at *
        go_wp2_with (first
          | (go_at_call 7; refine (HA.out _).mono ?_; clear HA; rintro e w1 ⟨rfl, h1⟩; have hj1 := Lib.hid (hj.out.next h1); clear h1 hj; obtain ⟨a0, a1, a2⟩ := (hj1.out.bx 1 rfl).c3; obtain ⟨b0, b1⟩ := (hj1.out.bx 0 rfl).c2)
          | (go_at_call 8; refine (HMy.out _).mono ?_; clear HMy a0 a1 a2 b0 b1; rintro e w2 ⟨rfl, h2⟩; have hj2 := Lib.hid (hj1.out.next h2); clear h2 hj1; obtain ⟨a0, a1, a2⟩ := (hj2.out.bx 1 rfl).c3; obtain ⟨b0, b1⟩ := (hj2.out.bx 0 rfl).c2)
          | (go_at_call 12; refine (HF.out _).mono ?_; clear HF a0 a1 a2 b0 b1; rintro e w3 ⟨rfl, h3⟩; have hj3 := Lib.hid (hj2.out.next h3); clear h3 hj2))
        go_loopw [11] (fun a wr => ∃ (i : Nat) (c : K) (l : L), a = .int .i64 i ∧ i ≤ len1 ∧ Hid (c.May ∧ l.May) ∧ Hid (J w wr [(w.heap.size + 1, Lef.arr l), (w.heap.size, Car.arr c)])) (fun a _ => len1 - (intOf a).toNat)
        case atStart => exact ⟨0, _, _, rfl, by omega, HC, hj3⟩
        case round =>
          clear hj3 HC hs
          obtain ⟨i, c, l, rfl, hi, hon, hj⟩ := hrel
          by_cases hlt : i < len1
          · have hiz : i < z1.length := by rw [HL1.out]; exact hlt
            obtain ⟨b1, p1, rfl, hb1, k0, k1, k2, k3⟩ := askd_cells HS1.out i z1[i] (List.getElem?_eq_getElem hiz)
            generalize z1[i] = a at k0 k1 k2 k3
            obtain ⟨av, ab, aw, ax⟩ := a
            simp only at k0 k1 k2 k3
            have HC0 := Lib.hid k0
            have HC1 := Lib.hid k1
            have HC2 := Lib.hid k2
            have HC3 := Lib.hid k3
            clear k0 k1 k2 k3
            have i1 : (i : Int) < (len1 : Int) := by omega
            have e3 : IntKind.i64.wrap ((i : Int) + 1) = ((i + 1 : Nat) : Int) := by rw [IntWalk.i64_in _ (by omega)]; rfl
            have HD : Hid (∀ W, Calls Try.prog 9 #[Car.val c, Lef.val l, .int .i64 av, .bool ab, .int .i64 aw] W (Says W (.tuple #[.int .i64 (dv l.o av), .bool (db l.o ab), .int .i64 (dw (lv c) (db l.o ab) aw)]))) := Lib.hid fun W => Does_any c hon.out.1.p0 l av ab aw W
            have HS : Hid (∀ W, Calls Try.prog 14 #[Lef.val l, .int .i64 (dw (lv c) (db l.o ab) aw), .bool ax] W (Says W (Lef.val (st l (dw (lv c) (db l.o ab) aw) ax)))) := Lib.hid fun W => Lef.Step_any l hon.out.2 _ ax W
            have HK : Hid (∀ W, Calls Try.prog 15 #[Car.val c, .int .i64 (dv l.o av), .bool (db l.o ab), .int .i64 fl] W (Says W (Car.val (tick c (dv l.o av) (db l.o ab) fl)))) := Lib.hid fun W => Car.Step_any c hon.out.1 _ _ fl W
            have HON : Hid ((tick c (dv l.o av) (db l.o ab) fl).May ∧ (st l (dw (lv c) (db l.o ab) aw) ax).May) := Lib.hid ⟨tick_may hon.out.1 _ _ _, st_may hon.out.2 _ _⟩
            have htop : ¬ 1000000 < (tick c (dv l.o av) (db l.o ab) fl).p := by have := HON.out.1.p1; omega
            have HT : Hid (∀ W, Calls Try.prog 16 #[Lef.val l] W (Says W (.bool (decide (l.o = 0))))) := Lib.hid fun W => Lef.Shut_any _ W
            have HT2 : Hid (∀ W, Calls Try.prog 16 #[Lef.val (st l (dw (lv c) (db l.o ab) aw) ax)] W (Says W (.bool (decide ((st l (dw (lv c) (db l.o ab) aw) ax).o = 0))))) := Lib.hid fun W => Lef.Shut_any _ W
            have HLv : Hid (∀ W, Calls Try.prog 13 #[Car.val c] W (Says W (.bool (lv c)))) := Lib.hid fun W => Car.Level_any c hon.out.1.p0 W
            have ways : (decide (l.o = 0) = false ∧ ((tick c (dv l.o av) (db l.o ab) fl).p != c.p) = false ∧ ((tick c (dv l.o av) (db l.o ab) fl).v != 0) = false) ∨
                (decide (l.o = 0) = true ∧ decide ((st l (dw (lv c) (db l.o ab) aw) ax).o = 0) = true) ∨
                (decide (l.o = 0) = true ∧ decide ((st l (dw (lv c) (db l.o ab) aw) ax).o = 0) = false ∧ lv c = true) := by
              by_cases h : l.o = 0
              · right
                by_cases h2 : (st l (dw (lv c) (db l.o ab) aw) ax).o = 0
                · exact .inl ⟨by simpa using h, by simpa using h2⟩
                · exact .inr ⟨by simpa using h, by simpa using h2, (shut_opens hon.out.2 h h2).2⟩
              · left
                rw [open_stands h]
                exact ⟨by simpa using h, by simp, by simp⟩
            clear hon
            generalize dv l.o av = v' at *
            generalize db l.o ab = b' at *
            generalize lv c = y at *
            generalize dw y b' aw = x at *
            generalize tick c v' b' fl = c2 at *
            generalize st l x ax = l2 at *
            generalize decide (l.o = 0) = z at *
            generalize decide (l2.o = 0) = z2 at *
            obtain ⟨p, v, k⟩ := c
            obtain ⟨o', d'⟩ := l
            obtain ⟨p2, v2, m2⟩ := c2
            obtain ⟨o2, d2⟩ := l2
            unfold Car.val Car.arr Lef.val Lef.arr at *
            simp only at *
            have hjl : Hid (JS w [(w.heap.size + 1, #[.int .i64 o', .int .i64 d']), (w.heap.size, #[.int .i64 p, .int .i64 v, .int .i64 k])] wr) := hj
            clear hj
            rcases ways with ⟨rfl, n1, n2⟩ | ⟨rfl, rfl⟩ | ⟨rfl, rfl, rfl⟩
            all_goals
              go_wp2
              refine wp_region_all _ JS.closed hjl.out (by kernel_rfl) (by kernel_rfl) ?_
              apply Exists.intro
              refine ⟨fun w4 h4 => ?_, fun W4 hJ4 hb4 => ?_⟩
              · haveI := Ext.some h4
                obtain ⟨q0, q1⟩ := ext2 h4 0 rfl
                obtain ⟨q2, q3, q4⟩ := ext3 h4 1 rfl
                have m0 := ext_old h4 (a := ⟨b1, p1 + i * 4, none⟩) hb1 HC0.out
                have m1 := ext_old h4 (a := ⟨b1, p1 + i * 4 + 1, none⟩) hb1 HC1.out
                have m2 := ext_old h4 (a := ⟨b1, p1 + i * 4 + 2, none⟩) hb1 HC2.out
                have c1 := Lib.hid (Ext.calls h4 JS.closed (fun W _ => HD.out W))
                repeat go_big_quiet_step (first | (go_at_call 9; with_reducible exact c1.out _))
                exact wpQuiet_nil rfl
              · go_wp2
                have hj5 : Hid (JS w _ W4) := Lib.hid hJ4
                refine wp_region_lay 8 _ #[.int .i64 0, .int .i64 0] 25 _ 15 JS.closed hj5.out (by kernel_rfl) (by kernel_rfl) rfl rfl rfl (fun ρ w' => by simp [execOp, go_sem]) ?_
                simp only [List.take_succ_cons, List.take_zero, List.drop_succ_cons, List.drop_zero]
                apply Exists.intro
                refine ⟨fun w5 h5 => ?_, fun B W5 hJ5 hz5 hB hbx => ?_⟩
                · haveI := Ext.some h5
                  obtain ⟨q0, q1⟩ := ext2 h5 0 rfl
                  have m3 := ext_old h5 (a := ⟨b1, p1 + i * 4 + 3, none⟩) hb1 HC3.out
                  have c1 := Lib.hid (Ext.calls h5 JS.closed (fun W _ => HS.out W))
                  repeat go_big_quiet_step (first | (go_at_call 14; with_reducible exact c1.out _))
                  exact wpQuiet_nil rfl
                · have hlX := (hj5.out.bx 0 rfl).lt
                  have hBX : B ≠ w.heap.size := by omega
                  have hBY : B ≠ w.heap.size + 1 := by omega
                  have hneB : ∀ x ∈ [(w.heap.size + 1, (#[.int .i64 o', .int .i64 d'] : Array Value)), (w.heap.size, #[.int .i64 p, .int .i64 v, .int .i64 k])], x.1 ≠ B := fun x hx => by
                    simp only [List.mem_cons, List.not_mem_nil, or_false] at hx
                    rcases hx with rfl | rfl <;> simp only <;> omega
                  obtain ⟨f0, f1⟩ := hbx.f2
                  obtain ⟨r0, r1⟩ := hbx.c2
                  have hj6 : Hid (JS w _ _) := Lib.hid (Lef.jfill2 (J.more hJ5 hbx) (x := .int .i64 o2) (y := .int .i64 d2) (by omega) hneB)
                  change wpList _ _ _ _ _ _
                  obtain ⟨x0, x1, x2⟩ := (hj6.out.bx 2 rfl).c3
                  go_wp2_with (first
                    | (go_at_call 15; (with_reducible refine (HK.out _).mono ?_); clear HK x0 x1 x2; rintro e6 w6 ⟨rfl, h6⟩; have hj7 := Lib.hid ((J.next hj6.out h6).push #[.int .i64 p2, .int .i64 v2, .int .i64 m2] 23); clear h6; obtain ⟨e0, e1, e2⟩ := (hj7.out.bx 0 rfl).c3; obtain ⟨t0, t1⟩ := (hj7.out.bx 1 rfl).c2; obtain ⟨y0, y1⟩ := (hj7.out.bx 2 rfl).c2; obtain ⟨x0, x1, x2⟩ := (hj7.out.bx 3 rfl).c3; obtain ⟨g0, g1'⟩ := (hj7.out.bx 2 rfl).f2; obtain ⟨f0, f1, f2⟩ := (hj7.out.bx 3 rfl).f3)
                    | (go_at_call 16; (with_reducible refine (HT.out _).mono ?_); rintro e7 w7 ⟨rfl, h7⟩; have hj8 := Lib.hid (hj7.out.next h7); clear h7 hj7; clear e0 e1 e2 t0 t1 y0 y1 x0 x1 x2 f0 f1 f2 g0 g1'; obtain ⟨e0, e1, e2⟩ := (hj8.out.bx 0 rfl).c3; obtain ⟨t0, t1⟩ := (hj8.out.bx 1 rfl).c2; obtain ⟨y0, y1⟩ := (hj8.out.bx 2 rfl).c2; obtain ⟨x0, x1, x2⟩ := (hj8.out.bx 3 rfl).c3; obtain ⟨g0, g1'⟩ := (hj8.out.bx 2 rfl).f2; obtain ⟨f0, f1, f2⟩ := (hj8.out.bx 3 rfl).f3)
                    | (go_at_call 16; (with_reducible refine (HT.out _).mono ?_); rintro e8 w8 ⟨rfl, h8⟩; have hj9 := Lib.hid (hj8.out.next h8); clear h8 hj8; clear e0 e1 e2 t0 t1 y0 y1 x0 x1 x2 f0 f1 f2 g0 g1'; obtain ⟨e0, e1, e2⟩ := (hj9.out.bx 0 rfl).c3; obtain ⟨t0, t1⟩ := (hj9.out.bx 1 rfl).c2; obtain ⟨y0, y1⟩ := (hj9.out.bx 2 rfl).c2; obtain ⟨x0, x1, x2⟩ := (hj9.out.bx 3 rfl).c3; obtain ⟨g0, g1'⟩ := (hj9.out.bx 2 rfl).f2; obtain ⟨f0, f1, f2⟩ := (hj9.out.bx 3 rfl).f3)
                    | (go_at_call 16; (with_reducible refine (HT2.out _).mono ?_); rintro e9 w9 ⟨rfl, h9⟩; have hj10 := Lib.hid (hj9.out.next h9); clear h9 hj9; clear e0 e1 e2 t0 t1 y0 y1 x0 x1 x2 f0 f1 f2 g0 g1'; obtain ⟨e0, e1, e2⟩ := (hj10.out.bx 0 rfl).c3; obtain ⟨t0, t1⟩ := (hj10.out.bx 1 rfl).c2; obtain ⟨y0, y1⟩ := (hj10.out.bx 2 rfl).c2; obtain ⟨x0, x1, x2⟩ := (hj10.out.bx 3 rfl).c3; obtain ⟨g0, g1'⟩ := (hj10.out.bx 2 rfl).f2; obtain ⟨f0, f1, f2⟩ := (hj10.out.bx 3 rfl).f3)
                    | (go_at_call 13; (with_reducible refine (HLv.out _).mono ?_); rintro e10 w10 ⟨rfl, h10⟩; have hj11 := Lib.hid (hj10.out.next h10); clear h10 hj10; clear e0 e1 e2 t0 t1 y0 y1 x0 x1 x2 f0 f1 f2 g0 g1'; obtain ⟨e0, e1, e2⟩ := (hj11.out.bx 0 rfl).c3; obtain ⟨t0, t1⟩ := (hj11.out.bx 1 rfl).c2; obtain ⟨y0, y1⟩ := (hj11.out.bx 2 rfl).c2; obtain ⟨x0, x1, x2⟩ := (hj11.out.bx 3 rfl).c3; obtain ⟨g0, g1'⟩ := (hj11.out.bx 2 rfl).f2; obtain ⟨f0, f1, f2⟩ := (hj11.out.bx 3 rfl).f3))
                  have hne : ∀ x ∈ [(w.heap.size + 1, (#[.int .i64 o', .int .i64 d'] : Array Value))], x.1 ≠ w.heap.size := fun x hx => by
                    simp at hx; subst hx; simp only; omega
                  have hne2 : ∀ x ∈ [(w.heap.size, (#[.int .i64 p2, .int .i64 v2, .int .i64 m2] : Array Value))], x.1 ≠ w.heap.size + 1 := fun x hx => by
                    simp at hx; subst hx; simp only; omega
                  have hja := Lib.hid ((jlast42 (by first | exact hj11.out | exact hj10.out | exact hj9.out)).fill3 (x := .int .i64 p2) (y := .int .i64 v2) (z := .int .i64 m2) (Nat.le_refl _) hne)
                  have hjm := Lib.hid (Lef.jfill2 (Lef.jswap hja.out) (x := .int .i64 o2) (y := .int .i64 d2) (Nat.le_succ _) hne2)
                  go_roundw
                  case rel => exact ⟨i + 1, ⟨p2, v2, m2⟩, ⟨o2, d2⟩, rfl, by omega, HON, hjm⟩
                  case measure => simp [intOf]; omega
          · obtain rfl : i = len1 := by omega
            go_wp2
            go_ret
            exact ⟨rfl, hj.out.below⟩
      · rw [Bool.not_eq_true] at hs
        rw [hs] at HF
        clear hs
        obtain ⟨p, v, k⟩ := c
        obtain ⟨o, d⟩ := l
        unfold Car.val Car.arr Lef.val Lef.arr at *
        simp only at *
        go_enter Try.func5, Try.ntmps5
        go_wp2_with (first
          | (go_at_call 7; refine (HA.out _).mono ?_; clear HA; rintro e w1 ⟨rfl, h1⟩; have hj1 := Lib.hid (hj.out.next h1); clear h1 hj; obtain ⟨a0, a1, a2⟩ := (hj1.out.bx 1 rfl).c3; obtain ⟨b0, b1⟩ := (hj1.out.bx 0 rfl).c2)
          | (go_at_call 8; refine (HMy.out _).mono ?_; clear HMy a0 a1 a2 b0 b1; rintro e w2 ⟨rfl, h2⟩; have hj2 := Lib.hid (hj1.out.next h2); clear h2 hj1; obtain ⟨a0, a1, a2⟩ := (hj2.out.bx 1 rfl).c3; obtain ⟨b0, b1⟩ := (hj2.out.bx 0 rfl).c2)
          | (go_at_call 12; refine (HF.out _).mono ?_; clear HF; rintro e w3 ⟨rfl, h3⟩; have hj3 := Lib.hid (hj2.out.next h3)))
        go_ret
        exact ⟨rfl, hj3.out.below⟩
  · rw [Bool.not_eq_true] at hb
    rw [hb] at HMy
    clear hb
    obtain ⟨p, v, k⟩ := c
    obtain ⟨o, d⟩ := l
    unfold Car.val Car.arr Lef.val Lef.arr at *
    simp only at *
    go_enter Try.func5, Try.ntmps5
    go_wp2_with (first
      | (go_at_call 7; refine (HA.out _).mono ?_; clear HA; rintro e w1 ⟨rfl, h1⟩; have hj1 := Lib.hid (hj.out.next h1); clear h1 hj; obtain ⟨a0, a1, a2⟩ := (hj1.out.bx 1 rfl).c3; obtain ⟨b0, b1⟩ := (hj1.out.bx 0 rfl).c2)
      | (go_at_call 8; refine (HMy.out _).mono ?_; clear HMy; rintro e w2 ⟨rfl, h2⟩; have hj2 := Lib.hid (hj1.out.next h2)))
    go_ret
    exact ⟨rfl, hj2.out.below⟩

end Go.Proofs.Ytbcfjoleimkbeaa.Walk
