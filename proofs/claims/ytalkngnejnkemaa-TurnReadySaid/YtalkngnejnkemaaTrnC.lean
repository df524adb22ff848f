/- Contracts of turn's closure, or, Step, Pick. -/
import Derived.Test.YtalkngnejnkemaaTrnB
import Derived.Deep.RegionHeld
namespace Go.Proofs.Ytalkngnejnkemaa.Trn
open Go.RowKit Go.Proofs.Ytalkngnejnkemaa.Plain Go.Proofs.Ytalkngnejnkemaa.OrdP Go.Proofs.Ytalkngnejnkemaa.TrnP Go.Proofs.Ytalkngnejnkemaa.Ord Go.Proofs.Ytalkngnejnkemaa.Sees Go.Proofs.Ytalkngnejnkemaa.Box Go.Proofs.Ytalkngnejnkemaa.Held
set_option linter.unusedVariables false

/-- what the closure captured, and its result's cells -/
structure Cap (n X Y Z : Nat) (t : T) (r : Nat) (p : Int) (a b : Value) (w W : World) : Prop where
  below : Below n w W
  lx : X < n
  ly : Y < n
  lz : Z < n
  x : Bx W X (arr t)
  y : Bx W Y #[.int .u64 r]
  z : Bx W Z #[.int .i64 p]
  own : Bx W n #[a, b]
theorem Cap.next {n X Y Z : Nat} {t : T} {r : Nat} {p : Int} {a b : Value} {w W W' : World} (h : Cap n X Y Z t r p a b w W) (hb : Below W.heap.size W W') : Cap n X Y Z t r p a b w W' :=
  ⟨h.below.trans (hb.mono (Nat.le_of_lt h.own.lt)), h.lx, h.ly, h.lz, h.x.next hb, h.y.next hb, h.z.next hb, h.own.next hb⟩
theorem Cap.drew {n X Y Z : Nat} {t : T} {r : Nat} {p : Int} {a b : Value} {w W : World} (h : Cap n X Y Z t r p a b w W) : Cap n X Y Z t r p a b w W.drew :=
  ⟨h.below.drew, h.lx, h.ly, h.lz, h.x.drew, h.y.drew, h.z.drew, h.own.drew⟩
theorem Cap.fill {n X Y Z : Nat} {t : T} {r : Nat} {p : Int} {a b : Value} {w W : World} (h : Cap n X Y Z t r p a b w W) (c d : Value) : Cap n X Y Z t r p c d w ((W.setCell ⟨n, 0, none⟩ c).setCell ⟨n, 1, none⟩ d) := by
  have h1 := h.lx
  have h2 := h.ly
  have h3 := h.lz
  exact ⟨(h.below.setCell (Nat.le_refl _) _).setCell (Nat.le_refl _) _, h1, h2, h3, (h.x.off _ (by show X ≠ n; omega)).off _ (by show X ≠ n; omega), (h.y.off _ (by show Y ≠ n; omega)).off _ (by show Y ≠ n; omega), (h.z.off _ (by show Z ≠ n; omega)).off _ (by show Z ≠ n; omega), (h.own.set _).set _⟩

set_option maxHeartbeats 3200000 in
theorem next_any (t : T) (r : Nat) (p : Int) (hr : r < 18446744073709551616) (X Y Z : Nat) (w : World) (hX : Bx w X (arr t)) (hY : Bx w Y #[.int .u64 r]) (hZ : Bx w Z #[.int .i64 p]) :
    Calls Try.prog 15 #[.pointer (some ⟨X, 0, none⟩), .pointer (some ⟨Y, 0, none⟩), .pointer (some ⟨Z, 0, none⟩)] w (Says w (val (bg (nb r t.c) p))) := by
  have hC : Hid (Cap w.heap.size X Y Z t r p (.int .i64 0) (.int .i64 0) w (w.alloc (.cells #[.int .i64 0, .int .i64 0] 23))) := Lib.hid ⟨below_box, hX.lt, hY.lt, hZ.lt, hX.alloc _, hY.alloc _, hZ.alloc _, Bx.new w _ _⟩
  have HR : Hid (∀ W, Calls Try.prog 18 #[.int .i64 t.c] W (RingPost W (fs t.c))) := Lib.hid fun W => ring_any t.c W
  have HN : Hid (∀ B W, Bx W B (nums .i64 (rg (fs t.c))).toArray → Calls Try.prog 17 #[.slice (some ⟨B, 0, none⟩) 64 64, .int .u64 (18446744073709551615 - r : Nat), .int .u64 0] W (Says W (.int .i64 (nb r t.c)))) := Lib.hid fun B W h => by
    have := Next_any (18446744073709551615 - r) 0 (rg (fs t.c)) (some ⟨B, 0, none⟩) 64 64 W (by omega) (by omega) (rg_len _) (by unfold maxLen; omega) (sees_bx h h.lt)
    rwa [nx_ring hr] at this
  have HB : Hid (∀ W, Calls Try.prog 16 #[.int .i64 (nb r t.c), .int .i64 p] W (Says W (val (bg (nb r t.c) p)))) := Lib.hid fun W => begun_any _ p W
  have hx := not_u64 r hr
  obtain ⟨c, l⟩ := t
  generalize bg (nb r (T.mk c l).c) p = u at *
  simp only at *
  generalize nb r c = q at *
  generalize fs c = f at *
  generalize 18446744073709551615 - r = s at *
  obtain ⟨uc, ul⟩ := u
  unfold val arr at *
  simp only at *
  have hsz : ∀ o : Obj, (w.alloc o).drew.heap.size = w.heap.size + 1 := fun o => by show (w.alloc o).heap.size = _; simp
  clear hr hX hY hZ
  go_enter Try.func15, Try.ntmps15
  go_wp2
  have hC' := Lib.hid hC.out.drew
  have x0 := hC.out.x.c2.1
  have y0 := hC.out.y.c1
  have z0 := hC.out.z.c1
  go_region_held (fun W' => W'.cell? ⟨X, 0, none⟩ = some (.int .i64 c) ∧ W'.cell? ⟨Y, 0, none⟩ = some (.int .u64 r) ∧ W'.cell? ⟨Z, 0, none⟩ = some (.int .i64 p) ∧ (∃ a b, Hid (Cap w.heap.size X Y Z ⟨c, l⟩ r p a b w W')))
    ((have hc := ‹Hid (Cap _ _ _ _ _ _ _ _ _ _ _)›
      first
      | exact ⟨hc.out.x.c2.1, hc.out.y.c1, hc.out.z.c1, _, _, hc⟩
      | (have hc4 := Lib.hid (hc.out.fill (.int .i64 uc) (.int .i64 ul)); exact ⟨hc4.out.x.c2.1, hc4.out.y.c1, hc4.out.z.c1, _, _, hc4⟩)))
    ((have hc0 := ‹Hid (Cap _ _ _ _ _ _ _ _ _ _ _)›
      first
      | (go_at_call 18; (with_reducible refine (HR.out _).mono ?_); rintro e w1 ⟨rfl, h1, hb1⟩; have hc1 := Lib.hid (hc0.out.next h1); rw [hsz] at hb1; have hb := Lib.hid hb1)
      | (go_at_call 17; refine (HN.out _ _ ‹Hid (Bx _ _ _)›.out).mono ?_; rintro e w2 ⟨rfl, h2⟩; have hc2 := Lib.hid (hc0.out.next h2))
      | (go_at_call 16; (with_reducible refine (HB.out _).mono ?_); rintro e w3 ⟨rfl, h3⟩; have hc3 := Lib.hid (hc0.out.next h3); obtain ⟨g0, g1⟩ := hc3.out.own.c2; obtain ⟨g2, g3⟩ := hc3.out.own.f2)))
  have hc5 := hc3.out.fill (.int .i64 uc) (.int .i64 ul)
  obtain ⟨k0, k1⟩ := hc5.own.c2
  have hb5 := hc5.below
  go_wp2
  refine bodyPost_ret (v := .agg #[.int .i64 uc, .int .i64 ul]) (by simp [results, Try.results15, go_sem, *]) rfl ⟨rfl, hb5⟩

/-- a turn that isn't that of no car stays -/
theorem or_stays (t : T) (h : t ≠ no) (f : Value) (w : World) : Calls Try.prog 20 #[val t, f] w (Says w (val t)) := by
  have HN : Hid (∀ W, Calls Try.prog 12 #[] W (Says W (.agg #[.int .i64 (-1), .int .i64 0]))) := Lib.hid (fun W => None_any W)
  obtain ⟨c, l⟩ := t
  have hj := Lib.hid (J.two w #[.int .i64 c, .int .i64 l] #[.int .i64 0, .int .i64 0] 23 23)
  unfold val
  simp only
  have ways : (c == -1) = false ∨ ((c == -1) = true ∧ (l == 0) = false) := by
    by_cases k : c = -1
    · refine .inr ⟨by simpa using k, ?_⟩
      by_cases k2 : l = 0
      · exact absurd (by rw [k, k2]; rfl) h
      · simpa using k2
    · exact .inl (by simpa using k)
  have hjs : Hid (JS w _ _) := hj
  clear hj h
  rcases ways with k | ⟨k, k2⟩
  all_goals
    go_enter Try.func20, Try.ntmps20
    go_wp2
    refine wp_region_all _ JS.closed hjs.out (by kernel_rfl) (by kernel_rfl) ?_
    apply Exists.intro
    refine ⟨fun w3 h3 => ?_, fun W3 hJ3 hb3 => ?_⟩
    · haveI := Ext.some h3
      obtain ⟨q0, q1⟩ := ext2 h3 1 rfl
      have cN := Lib.hid (Ext.calls h3 JS.closed (fun W _ => HN.out W))
      repeat go_big_quiet_step (first | (go_at_call 12; with_reducible exact cN.out _))
      exact wpQuiet_nil rfl
    · obtain ⟨a0, a1⟩ := (J.bx hJ3 1 rfl).c2
      obtain ⟨g0, g1⟩ := (J.bx hJ3 0 rfl).c2
      obtain ⟨g2, g3⟩ := (J.bx hJ3 0 rfl).f2
      have hj4 := (J.set hJ3 0 (.int .i64 c) (X := w.heap.size + 1) (by omega)).set 1 (.int .i64 l) (X := w.heap.size + 1) (by omega)
      go_wp2
      refine bodyPost_ret (v := .agg #[.int .i64 c, .int .i64 l]) (by simp [results, Try.results20, go_sem, *]) rfl ⟨rfl, hj4.below⟩

/-- that of no car: the one that the closure tells -/
theorem or_next (u : T) (X Y Z : Nat) (w : World) (hf : ∀ W, Hid (Below w.heap.size w W) → Calls Try.prog 15 #[.pointer (some ⟨X, 0, none⟩), .pointer (some ⟨Y, 0, none⟩), .pointer (some ⟨Z, 0, none⟩)] W (Says W (val u))) :
    Calls Try.prog 20 #[.agg #[.int .i64 (-1), .int .i64 0], .func (.func 15) #[] #[.pointer (some ⟨X, 0, none⟩), .pointer (some ⟨Y, 0, none⟩), .pointer (some ⟨Z, 0, none⟩)]] w (Says w (val u)) := by
  have HN : Hid (∀ W, Calls Try.prog 12 #[] W (Says W (.agg #[.int .i64 (-1), .int .i64 0]))) := Lib.hid (fun W => None_any W)
  have HF := Lib.hid hf
  clear hf
  obtain ⟨c, l⟩ := u
  have hj := Lib.hid (J.two w #[.int .i64 (-1), .int .i64 0] #[.int .i64 0, .int .i64 0] 23 23)
  unfold val at *
  simp only at *
  have hjs : Hid (JS w _ _) := hj
  clear hj
  have kk : ((-1 : Int) == -1) = true := by decide
  have k0 : ((0 : Int) == 0) = true := by decide
  go_enter Try.func20, Try.ntmps20
  go_wp2
  refine wp_region_all _ JS.closed hjs.out (by kernel_rfl) (by kernel_rfl) ?_
  apply Exists.intro
  refine ⟨fun w3 h3 => ?_, fun W3 hJ3 hb3 => ?_⟩
  · haveI := Ext.some h3
    obtain ⟨q0, q1⟩ := ext2 h3 1 rfl
    have cN := Lib.hid (Ext.calls h3 JS.closed (fun W _ => HN.out W))
    repeat go_big_quiet_step (first | (go_at_call 12; with_reducible exact cN.out _))
    exact wpQuiet_nil rfl
  · have hj3 : Hid (J w _ _) := Lib.hid hJ3
    clear hJ3
    go_wp2_with (go_at_call 15; refine (HF.out _ (Lib.hid hj3.out.below)).mono ?_; rintro e w4 ⟨rfl, h4⟩; have hj4 := Lib.hid (hj3.out.next h4); clear h4; obtain ⟨g0, g1⟩ := (hj4.out.bx 0 rfl).c2; obtain ⟨g2, g3⟩ := (hj4.out.bx 0 rfl).f2)
    have hj5 := (hj4.out.set 0 (.int .i64 c) (X := w.heap.size + 1) (by omega)).set 1 (.int .i64 l) (X := w.heap.size + 1) (by omega)
    refine bodyPost_ret (v := .agg #[.int .i64 c, .int .i64 l]) (by simp [results, Try.results20, go_sem, *]) rfl ⟨rfl, hj5.below⟩
end Go.Proofs.Ytalkngnejnkemaa.Trn
