/- Contracts of gate's functions. -/
import Derived.Test.YtaknnkmdfimcbaaCarL
import Derived.Test.YtaknnkmdfimcbaaLefA1
import Derived.Test.YtaknnkmdfimcbaaGatP
import Derived.Laws.StructEq
namespace Go.Proofs.Ytaknnkmdfimcbaa.Gat
open Go.RowKit Go.Proofs.Ytaknnkmdfimcbaa.CarP Go.Proofs.Ytaknnkmdfimcbaa.LefP Go.Proofs.Ytaknnkmdfimcbaa.LokP Go.Proofs.Ytaknnkmdfimcbaa.GatP Go.Proofs.Ytaknnkmdfimcbaa.Box Go.Proofs.Ytaknnkmdfimcbaa.Held
set_option linter.unusedVariables false

/-- a gate as a value, as cells -/
def val (g : G) : Value := .agg #[.int .i64 g.w, .int .i64 g.t]
def arr (g : G) : Array Value := #[.int .i64 g.w, .int .i64 g.t]

theorem beq_dec {a b c d : Int} (h : a = b ↔ c = d) : (a == b) = decide (c = d) := Bool.eq_iff_iff.2 (by rw [beq_iff_eq, decide_eq_true_iff]; exact h)

/-- four blocks of a call's own -/
theorem jfour (w : World) (c0 c1 c2 c3 : Array Value) (t0 t1 t2 t3 : TypeId) : J w ((((w.alloc (.cells c0 t0)).alloc (.cells c1 t1)).alloc (.cells c2 t2)).alloc (.cells c3 t3)) [(w.heap.size + 3, c3), (w.heap.size + 2, c2), (w.heap.size + 1, c1), (w.heap.size, c0)] := by
  have := (J.three w c0 c1 c2 t0 t1 t2).push c3 t3
  rwa [World.size_alloc, World.size_alloc, World.size_alloc] at this

theorem What1_any (x : Int) (is pw : Bool) (X : Nat) (w : World) (hX : Bx w X #[.bool pw]) : Calls Try.prog 20 #[.int .i64 x, .bool is, .pointer (some ⟨X, 0, none⟩)] w (Says w (.int .i64 (if pw && is then x else 0))) := by
  have a0 := hX.c1
  clear hX
  cases pw <;> cases is
  all_goals
    go_enter Try.func20, Try.ntmps20
    go_wp2
    go_ret
    exact ⟨rfl, Below.refl _ _⟩

set_option maxHeartbeats 1600000 in
theorem What_any (c : K) (hp : 0 ≤ c.p) (l : L) (op pw : Bool) (w : World) : Calls Try.prog 12 #[Car.val c, Lef.val l, .bool op, .bool pw] w (Says w (.int .i64 (wh c l op pw))) := by
  have HL : Hid (∀ W, Calls Try.prog 15 #[Car.val c] W (Says W (.bool (lv c)))) := Lib.hid fun W => Car.Level_any c hp W
  have HW : Hid (∀ W, Calls Try.prog 16 #[Lef.val l] W (Says W (.bool (wd l)))) := Lib.hid fun W => Lef.Wide_any l W
  have HS : Hid (∀ W, Calls Try.prog 17 #[Lef.val l] W (Says W (.bool (sh l)))) := Lib.hid fun W => Lef.Shut_any l W
  have H1 : Hid (∀ x is W X, Bx W X #[.bool pw] → Calls Try.prog 20 #[.int .i64 x, .bool is, .pointer (some ⟨X, 0, none⟩)] W (Says W (.int .i64 (if pw && is then x else 0)))) := Lib.hid fun x is W X h => What1_any x is pw X W h
  have hj := Lib.hid (J.three w (Car.arr c) (Lef.arr l) #[.bool pw] 23 25 4)
  unfold wh wx
  generalize lv c = y at *
  generalize wd l = z at *
  generalize sh l = s at *
  clear hp
  obtain ⟨p, v, k⟩ := c
  obtain ⟨o, d⟩ := l
  unfold Car.val Car.arr Lef.val Lef.arr at *
  simp only at *
  cases op
  · have H2 := Lib.hid (H1.out 2 (!s))
    clear H1 HL HW
    rw [if_neg (by simp)]
    generalize (if pw && !s then (2 : Int) else 0) = x at *
    cases s
    all_goals
      simp only [Bool.not_true, Bool.not_false] at H2
      go_enter Try.func12, Try.ntmps12
      go_wp2_with (first
        | (go_at_call 17; (with_reducible refine (HS.out _).mono ?_); clear HS; rintro e w1 ⟨rfl, h1⟩; have hj1 := Lib.hid (hj.out.next h1); clear h1 hj)
        | (go_at_call 20; (with_reducible refine (H2.out _ _ (hj1.out.bx 0 rfl)).mono ?_); clear H2; rintro e w2 ⟨rfl, h2⟩; have hj2 := Lib.hid (hj1.out.next h2); clear h2))
      go_ret
      exact ⟨rfl, hj2.out.below⟩
  · have H2 := Lib.hid (H1.out 1 (y && !z))
    clear H1 HS
    rw [if_pos rfl]
    generalize (if pw && (y && !z) then (1 : Int) else 0) = x at *
    cases y
    · simp only [Bool.false_and] at H2
      go_enter Try.func12, Try.ntmps12
      go_wp2_with (first
        | (go_at_call 15; (with_reducible refine (HL.out _).mono ?_); clear HL; rintro e w1 ⟨rfl, h1⟩; have hj1 := Lib.hid (hj.out.next h1); clear h1 hj)
        | (go_at_call 20; (refine (H2.out _ _ (hj1.out.bx 0 rfl)).mono ?_); clear H2; rintro e w2 ⟨rfl, h2⟩; have hj2 := Lib.hid (hj1.out.next h2); clear h2))
      go_ret
      exact ⟨rfl, hj2.out.below⟩
    · cases z
      all_goals
        simp only [Bool.true_and, Bool.not_true, Bool.not_false] at H2
        go_enter Try.func12, Try.ntmps12
        go_wp2_with (first
          | (go_at_call 15; (with_reducible refine (HL.out _).mono ?_); clear HL; rintro e w1 ⟨rfl, h1⟩; have hj0 := Lib.hid (hj.out.next h1); clear h1 hj; obtain ⟨a0, a1⟩ := (hj0.out.bx 1 rfl).c2)
          | (go_at_call 16; (with_reducible refine (HW.out _).mono ?_); clear HW; rintro e w1 ⟨rfl, h1⟩; have hj1 := Lib.hid (hj0.out.next h1); clear h1 hj0)
          | (go_at_call 20; (refine (H2.out _ _ (hj1.out.bx 0 rfl)).mono ?_); clear H2; rintro e w2 ⟨rfl, h2⟩; have hj2 := Lib.hid (hj1.out.next h2); clear h2))
        go_ret
        exact ⟨rfl, hj2.out.below⟩

theorem waits_any (g : G) (h0 : 0 ≤ g.w) (h1 : g.w ≤ 200) (a b : Bool) (d : Int) (w : World) : Calls Try.prog 18 #[val g, .bool a, .bool b, .int .i64 d] w (Says w (.int .i64 (ws g.w a b d))) := by
  obtain ⟨x, t⟩ := g
  simp only at h0 h1
  have e1 : IntKind.i64.wrap (x - 1) = x - 1 := IntWalk.i64_in _ (by omega)
  have m1 : ∀ W, (Builtin.max_ #[3, 3] 3 #[.int .i64 0, .int .i64 (x - 1)]).run Try.prog W = .ok (.int .i64 (max 0 (x - 1))) W := fun W => by
    rw [run_max_int2]; congr 2; split <;> omega
  unfold val ws
  simp only
  generalize max 0 (x - 1) = y at *
  cases b
  · go_enter Try.func18, Try.ntmps18
    go_wp2
    go_ret
    exact ⟨rfl, below_box⟩
  · cases a
    all_goals
      go_enter Try.func18, Try.ntmps18
      go_wp2
      go_ret
      exact ⟨rfl, below_box⟩

set_option maxHeartbeats 1600000 in
theorem Step_any (g : G) (h0 : 0 ≤ g.w) (h1 : g.w ≤ 200) (a b : L) (d : Int) (w : World) : Calls Try.prog 10 #[val g, Lef.val a, Lef.val b, .int .i64 d] w (Says w (val (gs g a b d))) := by
  have HA : Hid (∀ W, Calls Try.prog 16 #[Lef.val a] W (Says W (.bool (wd a)))) := Lib.hid fun W => Lef.Wide_any a W
  have HB : Hid (∀ W, Calls Try.prog 16 #[Lef.val b] W (Says W (.bool (wd b)))) := Lib.hid fun W => Lef.Wide_any b W
  have HS : Hid (∀ W, Calls Try.prog 17 #[Lef.val b] W (Says W (.bool (sh b)))) := Lib.hid fun W => Lef.Shut_any b W
  have HW : Hid (∀ W, Calls Try.prog 18 #[val g, .bool (wd a), .bool (wd b), .int .i64 d] W (Says W (.int .i64 (ws g.w (wd a) (wd b) d)))) := Lib.hid fun W => waits_any g h0 h1 _ _ d W
  have hj : Hid (JS w _ _) := Lib.hid (jfour w (arr g) (Lef.arr a) (Lef.arr b) #[.int .i64 0, .int .i64 0] 27 25 25 27)
  unfold gs
  generalize ws g.w (wd a) (wd b) d = x at *
  generalize wd a = y at *
  generalize wd b = z at *
  generalize sh b = s at *
  clear h0 h1
  obtain ⟨u, t⟩ := g
  obtain ⟨o, m⟩ := a
  obtain ⟨q, r⟩ := b
  unfold val arr Lef.val Lef.arr at *
  simp only at *
  cases s
  all_goals
    go_enter Try.func10, Try.ntmps10
    go_wp2
    refine wp_region_tail 8 _ JS.closed hj.out (by kernel_rfl) (by kernel_rfl) ?_
    simp only [List.take_succ_cons, List.take_zero, List.drop_succ_cons, List.drop_zero]
    apply Exists.intro
    refine ⟨fun w1 h1 => ?_, fun W1 hJ1 hb1 => ?_⟩
    · haveI := Ext.some h1
      obtain ⟨q0, q1⟩ := ext2 h1 1 rfl
      obtain ⟨q2, q3⟩ := ext2 h1 2 rfl
      obtain ⟨q4, q5⟩ := ext2 h1 3 rfl
      have cA := Lib.hid (Ext.calls h1 JS.closed (fun W _ => HA.out W))
      have cB := Lib.hid (Ext.calls h1 JS.closed (fun W _ => HB.out W))
      have cW := Lib.hid (Ext.calls h1 JS.closed (fun W _ => HW.out W))
      repeat go_big_quiet_step (first | (go_at_call 16; with_reducible exact cA.out _) | (go_at_call 16; with_reducible exact cB.out _) | (go_at_call 18; with_reducible exact cW.out _))
      exact wpQuiet_nil rfl
    · have hjS : Hid (J w (W1.setCell ⟨w.heap.size, 0, none⟩ (.int .i64 x)) [(w.heap.size + 3, #[.int .i64 0, .int .i64 0]), (w.heap.size + 2, #[.int .i64 q, .int .i64 r]), (w.heap.size + 1, #[.int .i64 o, .int .i64 m]), (w.heap.size, #[.int .i64 x, .int .i64 t])]) := Lib.hid (by have := J.set hJ1 0 (.int .i64 x) (X := w.heap.size) (Nat.le_refl _); simpa using this)
      obtain ⟨g0, g1⟩ := (hJ1.bx 3 rfl).c2
      obtain ⟨f0, f1⟩ := (hJ1.bx 3 rfl).f2
      obtain ⟨b0, b1⟩ := (hJ1.bx 1 rfl).c2
      change wpList _ _ _ _ _ _
      go_wp2_with (go_at_call 17; (with_reducible refine (HS.out _).mono ?_); clear HS g0 g1 f0 f1 b0 b1; rintro e w2 ⟨rfl, h2⟩; have hj2 := Lib.hid (hjS.out.next h2); clear h2 hjS; obtain ⟨g0, g1⟩ := (hj2.out.bx 3 rfl).c2; obtain ⟨f0, f1⟩ := (hj2.out.bx 3 rfl).f2; obtain ⟨b0, b1⟩ := (hj2.out.bx 0 rfl).c2; obtain ⟨k0, k1⟩ := (hj2.out.bx 0 rfl).f2)
      first
        | (have hj3 := ((hj2.out.set 0 (.int .i64 x) (X := w.heap.size + 3) (by omega)).set 1 (.int .i64 t) (X := w.heap.size + 3) (by omega))
           refine bodyPost_ret (v := .agg #[.int .i64 x, .int .i64 t]) (by simp [results, Try.results10, go_sem, *]) rfl ⟨rfl, hj3.below⟩)
        | (have hj3 := ((hj2.out.set 1 (.int .i64 0) (X := w.heap.size) (Nat.le_refl _)).set 0 (.int .i64 x) (X := w.heap.size + 3) (by omega)).set 1 (.int .i64 0) (X := w.heap.size + 3) (by omega)
           refine bodyPost_ret (v := .agg #[.int .i64 x, .int .i64 0]) (by simp [results, Try.results10, go_sem, *]) rfl ⟨rfl, hj3.below⟩)

theorem Ready_any (g : G) (l : L) (w : World) : Calls Try.prog 13 #[val g, Lef.val l] w (Says w (.bool (rd g l))) := by
  have HW : Hid (∀ W, Calls Try.prog 16 #[Lef.val l] W (Says W (.bool (wd l)))) := Lib.hid fun W => Lef.Wide_any l W
  have hj := Lib.hid (J.two w (arr g) (Lef.arr l) 27 25)
  unfold rd
  generalize wd l = z at *
  obtain ⟨u, t⟩ := g
  obtain ⟨o, d⟩ := l
  unfold val arr Lef.val Lef.arr at *
  simp only at *
  cases z
  · go_enter Try.func13, Try.ntmps13
    go_wp2_with (go_at_call 16; (with_reducible refine (HW.out _).mono ?_); clear HW; rintro e w1 ⟨rfl, h1⟩; have hj1 := Lib.hid (hj.out.next h1); clear h1 hj)
    go_ret
    exact ⟨ret_bool (by simp), hj1.out.below⟩
  · go_enter Try.func13, Try.ntmps13
    go_wp2_with (go_at_call 16; (with_reducible refine (HW.out _).mono ?_); clear HW; rintro e w1 ⟨rfl, h1⟩; have hj1 := Lib.hid (hj.out.next h1); clear h1 hj; obtain ⟨a0, a1⟩ := (hj1.out.bx 1 rfl).c2)
    go_ret
    exact ⟨ret_bool (by rw [beq_dec Iff.rfl]; simp), hj1.out.below⟩

theorem ajar_any (l : L) (w : World) : Calls Try.prog 19 #[Lef.val l] w (Says w (.bool (aj l))) := by
  have HW : Hid (∀ W, Calls Try.prog 16 #[Lef.val l] W (Says W (.bool (wd l)))) := Lib.hid fun W => Lef.Wide_any l W
  have HS : Hid (∀ W, Calls Try.prog 17 #[Lef.val l] W (Says W (.bool (sh l)))) := Lib.hid fun W => Lef.Shut_any l W
  have hj := Lib.hid (J.one w (Lef.arr l) 25)
  unfold aj
  generalize wd l = z at *
  generalize sh l = s at *
  obtain ⟨o, d⟩ := l
  unfold Lef.val Lef.arr at *
  simp only at *
  cases s
  · go_enter Try.func19, Try.ntmps19
    go_wp2_with (first
      | (go_at_call 17; (with_reducible refine (HS.out _).mono ?_); clear HS; rintro e w1 ⟨rfl, h1⟩; have hj1 := Lib.hid (hj.out.next h1); clear h1 hj; obtain ⟨a0, a1⟩ := (hj1.out.bx 0 rfl).c2)
      | (go_at_call 16; (with_reducible refine (HW.out _).mono ?_); clear HW; rintro e w2 ⟨rfl, h2⟩; have hj2 := Lib.hid (hj1.out.next h2); clear h2 hj1))
    go_ret
    exact ⟨ret_bool (by simp), hj2.out.below⟩
  · go_enter Try.func19, Try.ntmps19
    go_wp2_with (go_at_call 17; (with_reducible refine (HS.out _).mono ?_); clear HS; rintro e w1 ⟨rfl, h1⟩; have hj1 := Lib.hid (hj.out.next h1); clear h1 hj)
    go_ret
    exact ⟨ret_bool (by simp), hj1.out.below⟩

set_option maxHeartbeats 1600000 in
theorem Again_any (g : G) (h0 : 0 ≤ g.t) (h1 : g.t ≤ 1000000) (l : L) (bl : Bool) (m : Int) (w : World) : Calls Try.prog 11 #[val g, Lef.val l, .bool bl, .int .i64 m] w (Says w (.tuple #[val (gg g l bl m), .bool (ag g l bl m)])) := by
  have HA : Hid (∀ W, Calls Try.prog 19 #[Lef.val l] W (Says W (.bool (aj l)))) := Lib.hid fun W => ajar_any l W
  have hj := Lib.hid (J.three w (arr g) (Lef.arr l) #[.int .i64 0, .int .i64 0] 27 25 27)
  have e1 : IntKind.i64.wrap (g.t + 1) = g.t + 1 := IntWalk.i64_in _ (by omega)
  have hag : ag g l bl m = (aj l && bl && decide (g.t < m)) := rfl
  have hgg : gg g l bl m = if ag g l bl m then ⟨g.w, g.t + 1⟩ else g := rfl
  have ways : (aj l = false ∧ ag g l bl m = false) ∨ (aj l = true ∧ bl = false ∧ ag g l bl m = false) ∨ (aj l = true ∧ bl = true ∧ m ≤ g.t ∧ ag g l bl m = false) ∨ (aj l = true ∧ bl = true ∧ ¬ m ≤ g.t ∧ ag g l bl m = true) := by
    rw [hag]
    cases aj l
    · exact .inl ⟨rfl, rfl⟩
    · cases bl
      · exact .inr (.inl ⟨rfl, rfl, rfl⟩)
      · by_cases h : m ≤ g.t
        · exact .inr (.inr (.inl ⟨rfl, rfl, h, by simp; omega⟩))
        · exact .inr (.inr (.inr ⟨rfl, rfl, h, by simp; omega⟩))
  clear hag h0 h1
  generalize aj l = j at *
  generalize gg g l bl m = r at *
  generalize ag g l bl m = s at *
  obtain ⟨u, t⟩ := g
  obtain ⟨o, d⟩ := l
  unfold val arr Lef.val Lef.arr at *
  simp only at *
  rcases ways with ⟨rfl, rfl⟩ | ⟨rfl, rfl, rfl⟩ | ⟨rfl, rfl, k, rfl⟩ | ⟨rfl, rfl, k, rfl⟩
  iterate 3
    · rw [if_neg (by simp)] at hgg
      subst hgg
      go_enter Try.func11, Try.ntmps11
      go_wp2_with (go_at_call 19; (with_reducible refine (HA.out _).mono ?_); clear HA; rintro e w1 ⟨rfl, h1⟩; have hj1 := Lib.hid (hj.out.next h1); clear h1 hj; obtain ⟨a0, a1⟩ := (hj1.out.bx 2 rfl).c2; obtain ⟨b0, b1⟩ := (hj1.out.bx 0 rfl).c2; obtain ⟨f0, f1⟩ := (hj1.out.bx 0 rfl).f2)
      have hj3 := (hj1.out.set 0 (.int .i64 u) (X := w.heap.size + 2) (by omega)).set 1 (.int .i64 t) (X := w.heap.size + 2) (by omega)
      refine bodyPost_ret (v := .tuple #[.agg #[.int .i64 u, .int .i64 t], .bool false]) (by simp [results, Try.results11, go_sem, *]) rfl ⟨rfl, hj3.below⟩
  rw [if_pos rfl] at hgg
  subst hgg
  go_enter Try.func11, Try.ntmps11
  go_wp2_with (go_at_call 19; (with_reducible refine (HA.out _).mono ?_); clear HA; rintro e w1 ⟨rfl, h1⟩; have hj1 := Lib.hid (hj.out.next h1); clear h1 hj; obtain ⟨a0, a1⟩ := (hj1.out.bx 2 rfl).c2; obtain ⟨d0, d1⟩ := (hj1.out.bx 2 rfl).f2; obtain ⟨b0, b1⟩ := (hj1.out.bx 0 rfl).c2; obtain ⟨f0, f1⟩ := (hj1.out.bx 0 rfl).f2)
  have hj3 := ((hj1.out.set 1 (.int .i64 (t + 1)) (X := w.heap.size) (by omega)).set 0 (.int .i64 u) (X := w.heap.size + 2) (by omega)).set 1 (.int .i64 (t + 1)) (X := w.heap.size + 2) (by omega)
  refine bodyPost_ret (v := .tuple #[.agg #[.int .i64 u, (.int .i64 (t + 1))], .bool true]) (by simp [results, Try.results11, go_sem, *]) rfl ⟨rfl, hj3.below⟩

end Go.Proofs.Ytaknnkmdfimcbaa.Gat
