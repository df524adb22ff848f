/- Contracts of sense's functions. -/
import Derived.Test.YthgaacdgffpeaaaHeld
import Derived.Test.YthgaacdgffpeaaaSenP
import Derived.Laws.StructEq
namespace Go.Proofs.Ythgaacdgffpeaaa.Sen
open Go.RowKit Go.Proofs.Ythgaacdgffpeaaa.SenP Go.Proofs.Ythgaacdgffpeaaa.Box Go.Proofs.Ythgaacdgffpeaaa.Held
set_option linter.unusedVariables false

/-- a sense as a value, as cells -/
def val (s : S) : Value := .agg #[.bool s.g, .int .i64 s.c]

theorem jlay2 {w W : World} {bs : List (Nat × Array Value)} {X : Nat} {a b x y : Value} (h : J w W ((X, #[a, b]) :: bs)) (hX : w.heap.size ≤ X) (hne : ∀ x ∈ bs, x.1 ≠ X) : J w ((W.setCell ⟨X, 0, none⟩ x).setCell ⟨X, 1, none⟩ y) ((X, #[x, y]) :: bs) :=
  (h.put hX hne 0 x).put hX hne 1 y

/-- the last of two -/
theorem jlast2 {w W : World} {a b : Nat × Array Value} (h : J w W [a, b]) : J w W [b] := h.less fun x hx => by
  rw [List.mem_singleton.1 hx]; simp
theorem jset1 {w W : World} {X Y Z : Nat} {A C : Array Value} {a b y z : Value} (h : J w W [(X, A), (Y, #[a, b]), (Z, C)]) (hY : w.heap.size ≤ Y) (hne : X ≠ Y ∧ Z ≠ Y) : J w ((W.setCell ⟨Y, 0, none⟩ y).setCell ⟨Y, 1, none⟩ z) [(X, A), (Y, #[y, z]), (Z, C)] := by
  have := (h.set 0 y hY).set 1 z hY
  simpa [hne.1, hne.2] using this
theorem jset2 {w W : World} {X Y Z : Nat} {A C : Array Value} {a b y : Value} (h : J w W [(X, A), (Y, C), (Z, #[a, b])]) (hZ : w.heap.size ≤ Z) (hne : X ≠ Z ∧ Y ≠ Z) : J w (W.setCell ⟨Z, 1, none⟩ y) [(X, A), (Y, C), (Z, #[a, y])] := by
  have := h.set 1 y hZ
  simpa [hne.1, hne.2] using this

theorem mind_any (g : Bool) (c : Int) (w : World) : Calls Try.prog 10 #[.agg #[.bool g, .int .i64 c]] w (Says w (.agg #[.bool g, .int .i64 0])) := by
  go_enter Try.func10, Try.ntmps10
  go_wp2
  refine bodyPost_ret (v := .agg #[.bool g, .int .i64 0]) (by simp [results, Try.results10, go_sem]) rfl ⟨rfl, below_two⟩

set_option maxHeartbeats 1600000 in
theorem step_as (g : Bool) (c : Int) (x : Bool) (m : Int) (h0 : -9223372036854775808 ≤ c) (h1 : c < 9223372036854775807) (w : World) :
    Calls Try.prog 8 #[.agg #[.bool g, .int .i64 c], .bool x, .int .i64 m] w (Says w (.tuple #[val (st ⟨g, c⟩ x m), .bool (tn ⟨g, c⟩ x m)])) := by
  have HM : Hid (∀ W, Calls Try.prog 10 #[.agg #[.bool g, .int .i64 c]] W (Says W (.agg #[.bool g, .int .i64 0]))) := Lib.hid fun W => mind_any g c W
  have hj := Lib.hid (J.three w #[.bool g, .int .i64 c] #[.bool false, .int .i64 0] #[.bool x, .int .i64 0] 25 25 25)
  unfold val st tn
  simp only
  have hways : x = g ∨ (x = !g ∧ c + 1 < m) ∨ (x = !g ∧ ¬ c + 1 < m) := by
    by_cases k : x = g
    · exact .inl k
    · have : x = !g := by cases x <;> cases g <;> simp_all
      by_cases k1 : c + 1 < m
      · exact .inr (.inl ⟨this, k1⟩)
      · exact .inr (.inr ⟨this, k1⟩)
  have e1 : IntKind.i64.wrap (c + 1) = c + 1 := IntWalk.i64_in _ (by omega)
  clear h0 h1
  rcases hways with rfl | ⟨rfl, k⟩ | ⟨rfl, k⟩
  · simp only [if_true]
    have kx : (x == x) = true := by simp
    have hne : ∀ y ∈ [(w.heap.size + 1, (#[.bool false, .int .i64 0] : Array Value)), (w.heap.size, (#[.bool x, .int .i64 c] : Array Value))], y.1 ≠ w.heap.size + 2 := fun y hy => by
      simp at hy; rcases hy with rfl | rfl <;> simp
    have hjs : Hid (JS w _ _) := hj
    clear hj
    go_enter Try.func8, Try.ntmps8
    go_wp2
    refine wp_region_all _ JS.closed hjs.out (by kernel_rfl) (by kernel_rfl) ?_
    apply Exists.intro
    refine ⟨fun w3 h3 => ?_, fun W3 hJ3 hb3 => ?_⟩
    · haveI := Ext.some h3
      obtain ⟨q0, q1⟩ := ext2 h3 0 rfl
      obtain ⟨r0, r1⟩ := ext2 h3 2 rfl
      have cM := Lib.hid (Ext.calls h3 JS.closed (fun W _ => HM.out W))
      repeat go_big_quiet_step (first | (go_at_call 10; with_reducible exact cM.out _))
      exact wpQuiet_nil rfl
    · have hj3 : Hid (J w W3 [(w.heap.size + 1 + 1, #[.bool x, .int .i64 0]), (w.heap.size + 1, #[.bool false, .int .i64 0]), (w.heap.size, #[.bool x, .int .i64 c])]) := Lib.hid hJ3
      clear hb3 hJ3
      obtain ⟨a0, a1⟩ := (hj3.out.bx 0 rfl).c2
      obtain ⟨f0, f1⟩ := (hj3.out.bx 1 rfl).f2
      obtain ⟨g0, g1⟩ := (hj3.out.bx 1 rfl).c2
      go_wp2
      have hj4 := jset1 (y := .bool x) (z := .int .i64 0) hj3.out (Nat.le_succ _) ⟨by omega, by omega⟩
      obtain ⟨c0, c1⟩ := (hj4.bx 1 rfl).c2
      refine bodyPost_ret (v := .tuple #[.agg #[.bool x, .int .i64 0], .bool false]) (by simp [results, Try.results8, go_sem, *]) rfl ⟨rfl, hj4.below⟩
  · have hgf : ¬ (!g) = g := by cases g <;> decide
    have hgb : (g == !g) = false := by cases g <;> rfl
    have k1 : decide (c + 1 < m) = true := by simpa using k
    rw [if_neg hgf, if_pos k, if_neg hgf, if_pos k]
    have hjs : Hid (JS w _ _) := hj
    clear hj
    go_enter Try.func8, Try.ntmps8
    go_wp2
    refine wp_region_all _ JS.closed hjs.out (by kernel_rfl) (by kernel_rfl) ?_
    apply Exists.intro
    refine ⟨fun w3 h3 => ?_, fun W3 hJ3 hb3 => ?_⟩
    · haveI := Ext.some h3
      obtain ⟨q0, q1⟩ := ext2 h3 0 rfl
      obtain ⟨r0, r1⟩ := ext2 h3 2 rfl
      have cM := Lib.hid (Ext.calls h3 JS.closed (fun W _ => HM.out W))
      repeat go_big_quiet_step (first | (go_at_call 10; with_reducible exact cM.out _))
      exact wpQuiet_nil rfl
    · have hj3 : Hid (J w W3 [(w.heap.size + 1 + 1, #[.bool !g, .int .i64 0]), (w.heap.size + 1, #[.bool false, .int .i64 0]), (w.heap.size, #[.bool g, .int .i64 c])]) := Lib.hid hJ3
      clear hb3 hJ3
      obtain ⟨a0, a1⟩ := (hj3.out.bx 2 rfl).c2
      obtain ⟨e0, e2⟩ := (hj3.out.bx 2 rfl).f2
      have hj4 : Hid (J w _ _) := Lib.hid (jset2 (y := .int .i64 (c + 1)) hj3.out (Nat.le_refl _) ⟨by omega, by omega⟩)
      obtain ⟨b0, b1⟩ := (hj4.out.bx 2 rfl).c2
      obtain ⟨g0, g1⟩ := (hj4.out.bx 1 rfl).c2
      obtain ⟨d0, d1⟩ := (hj4.out.bx 1 rfl).f2
      go_wp2
      have hj5 := jset1 (y := .bool g) (z := .int .i64 (c + 1)) hj4.out (Nat.le_succ _) ⟨by omega, by omega⟩
      obtain ⟨c0, c1⟩ := (hj5.bx 1 rfl).c2
      refine bodyPost_ret (v := .tuple #[.agg #[.bool g, .int .i64 (c + 1)], .bool false]) (by simp [results, Try.results8, go_sem, *]) rfl ⟨rfl, hj5.below⟩
  · have hgf : ¬ (!g) = g := by cases g <;> decide
    have hgb : (g == !g) = false := by cases g <;> rfl
    have k1 : decide (c + 1 < m) = false := by simpa using k
    rw [if_neg hgf, if_neg k, if_neg hgf, if_neg k]
    have hjs : Hid (JS w _ _) := hj
    clear hj
    go_enter Try.func8, Try.ntmps8
    go_wp2
    refine wp_region_all _ JS.closed hjs.out (by kernel_rfl) (by kernel_rfl) ?_
    apply Exists.intro
    refine ⟨fun w3 h3 => ?_, fun W3 hJ3 hb3 => ?_⟩
    · haveI := Ext.some h3
      obtain ⟨q0, q1⟩ := ext2 h3 0 rfl
      obtain ⟨r0, r1⟩ := ext2 h3 2 rfl
      have cM := Lib.hid (Ext.calls h3 JS.closed (fun W _ => HM.out W))
      repeat go_big_quiet_step (first | (go_at_call 10; with_reducible exact cM.out _))
      exact wpQuiet_nil rfl
    · have hj3 : Hid (J w W3 [(w.heap.size + 1 + 1, #[.bool !g, .int .i64 0]), (w.heap.size + 1, #[.bool false, .int .i64 0]), (w.heap.size, #[.bool g, .int .i64 c])]) := Lib.hid hJ3
      clear hb3 hJ3
      obtain ⟨a0, a1⟩ := (hj3.out.bx 2 rfl).c2
      obtain ⟨e0, e2⟩ := (hj3.out.bx 2 rfl).f2
      have hj4 : Hid (J w _ _) := Lib.hid (jset2 (y := .int .i64 (c + 1)) hj3.out (Nat.le_refl _) ⟨by omega, by omega⟩)
      obtain ⟨b0, b1⟩ := (hj4.out.bx 2 rfl).c2
      obtain ⟨h0, h1⟩ := (hj4.out.bx 0 rfl).c2
      obtain ⟨g0, g1⟩ := (hj4.out.bx 1 rfl).c2
      obtain ⟨d0, d1⟩ := (hj4.out.bx 1 rfl).f2
      go_wp2
      have hj5 := jset1 (y := .bool !g) (z := .int .i64 0) hj4.out (Nat.le_succ _) ⟨by omega, by omega⟩
      obtain ⟨c0, c1⟩ := (hj5.bx 1 rfl).c2
      refine bodyPost_ret (v := .tuple #[.agg #[.bool !g, .int .i64 0], .bool true]) (by simp [results, Try.results8, go_sem, *]) rfl ⟨rfl, hj5.below⟩

end Go.Proofs.Ythgaacdgffpeaaa.Sen
