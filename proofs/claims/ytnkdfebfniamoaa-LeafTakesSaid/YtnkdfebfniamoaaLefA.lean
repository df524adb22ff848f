/- Contracts of leaf's functions, of layer 8's reference, awake. -/
import Derived.Test.YtnkdfebfniamoaaHeld
import Derived.Test.YtnkdfebfniamoaaLefP
namespace Go.Proofs.Ytnkdfebfniamoaa.Lef
open Go.RowKit Go.Proofs.Ytnkdfebfniamoaa.LefP Go.Proofs.Ytnkdfebfniamoaa.Box Go.Proofs.Ytnkdfebfniamoaa.Held
set_option linter.unusedVariables false

/-- doors as a value, as cells -/
def val (c : L) : Value := .agg #[.int .i64 c.o, .int .i64 c.d]
def arr (c : L) : Array Value := #[.int .i64 c.o, .int .i64 c.d]

theorem jfill2 {w W : World} {bs : List (Nat × Array Value)} {X : Nat} {a b x y : Value} (h : J w W ((X, #[a, b]) :: bs)) (hX : w.heap.size ≤ X) (hne : ∀ x ∈ bs, x.1 ≠ X) : J w ((W.setCell ⟨X, 0, none⟩ x).setCell ⟨X, 1, none⟩ y) ((X, #[x, y]) :: bs) :=
  (h.put hX hne 0 x).put hX hne 1 y
theorem jswap {w W : World} {a b : Nat × Array Value} (h : J w W [a, b]) : J w W [b, a] := h.less fun x hx => by
  simp only [List.mem_cons, List.not_mem_nil, or_false] at hx ⊢; exact hx.symm
theorem jhead {w W : World} {b : Nat × Array Value} {bs : List (Nat × Array Value)} (h : J w W (b :: bs)) : J w W [b] := h.less fun x hx => by rw [List.mem_singleton.1 hx]; exact List.mem_cons_self

/-- a call's result's first field -/
theorem fld0 (a b : Int) (W : World) : (Instr.field 24 (.agg #[.int .i64 a, .int .i64 b]) 0).run Try.prog W = .ok (.int .i64 a) W := by kernel_rfl

theorem Shut_any (c : L) (w : World) : Calls Try.prog 10 #[val c] w (Says w (.bool (decide (c.o = 0)))) := by
  obtain ⟨o, d⟩ := c
  unfold val
  go_enter Try.func10, Try.ntmps10
  go_wp2
  go_ret
  first | exact ⟨rfl, below_box⟩ | exact ⟨ret_bool (by simp), below_box⟩
theorem Wide_any (c : L) (w : World) : Calls Try.prog 11 #[val c] w (Says w (.bool (decide (c.o = c.d)))) := by
  obtain ⟨o, d⟩ := c
  unfold val
  go_enter Try.func11, Try.ntmps11
  go_wp2
  go_ret
  first | exact ⟨rfl, below_box⟩ | exact ⟨ret_bool (by simp), below_box⟩
theorem Left_any (c : L) (h : c.May) (w : World) : Calls Try.prog 12 #[val c] w (Says w (.int .i64 (c.d - c.o))) := by
  obtain ⟨o, d⟩ := c
  obtain ⟨h1, h2, h3, h4⟩ := h
  simp only at h1 h2 h3 h4
  have e1 : IntKind.i64.wrap (d - o) = d - o := IntWalk.i64_in _ (by omega)
  unfold val
  go_enter Try.func12, Try.ntmps12
  go_wp2
  go_ret
  exact ⟨rfl, below_box⟩

set_option maxHeartbeats 800000 in
theorem Step_any (c : L) (h : c.May) (what : Int) (b : Bool) (w : World) : Calls Try.prog 8 #[val c, .int .i64 what, .bool b] w (Says w (val (st c what b))) := by
  obtain ⟨o, d⟩ := c
  obtain ⟨h1, h2, h3, h4⟩ := h
  unfold st
  simp only at h1 h2 h3 h4 ⊢
  obtain ⟨x, hx⟩ : ∃ x, so o d what b = x := ⟨_, rfl⟩
  rw [hx]
  unfold so at hx
  unfold val
  simp only
  by_cases k1 : what = 1
  · rw [if_pos k1] at hx
    subst k1
    have e1 : IntKind.i64.wrap (o + 1) = o + 1 := IntWalk.i64_in _ (by omega)
    have m1 : ∀ W, (Builtin.min_ #[3, 3] 3 #[.int .i64 (o + 1), .int .i64 d]).run Try.prog W = .ok (.int .i64 (min (o + 1) d)) W := fun W => by
      rw [run_min_int2]; congr 2; split <;> omega
    have m2 : ∀ W, (Builtin.max_ #[3, 3] 3 #[.int .i64 0, .int .i64 (min (o + 1) d)]).run Try.prog W = .ok (.int .i64 x) W := fun W => by
      rw [run_max_int2]; congr 2; rw [← hx]; split <;> split <;> omega
    clear hx
    generalize min (o + 1) d = k at *
    go_enter Try.func8, Try.ntmps8
    go_wp2
    refine bodyPost_ret (v := .agg #[.int .i64 x, .int .i64 d]) (by simp [results, Try.results8, go_sem]) rfl ⟨rfl, below_two⟩
  · have j1 : (what == 1) = false := by simpa using k1
    rw [if_neg k1] at hx
    by_cases k2 : what = 2
    · rw [if_pos k2] at hx
      subst k2
      cases b with
      | true =>
        simp only [if_true] at hx
        subst hx
        go_enter Try.func8, Try.ntmps8
        go_wp2
        refine bodyPost_ret (v := .agg #[.int .i64 o, .int .i64 d]) (by simp [results, Try.results8, go_sem]) rfl ⟨rfl, below_two⟩
      | false =>
        rw [if_neg (by decide)] at hx
        have e1 : IntKind.i64.wrap (o + -1) = o + -1 := IntWalk.i64_in _ (by omega)
        have m1 : ∀ W, (Builtin.min_ #[3, 3] 3 #[.int .i64 (o + -1), .int .i64 d]).run Try.prog W = .ok (.int .i64 (min (o + -1) d)) W := fun W => by
          rw [run_min_int2]; congr 2; split <;> omega
        have m2 : ∀ W, (Builtin.max_ #[3, 3] 3 #[.int .i64 0, .int .i64 (min (o + -1) d)]).run Try.prog W = .ok (.int .i64 x) W := fun W => by
          rw [run_max_int2]; congr 2; rw [← hx]; split <;> split <;> omega
        clear hx
        generalize min (o + -1) d = k at *
        go_enter Try.func8, Try.ntmps8
        go_wp2
        refine bodyPost_ret (v := .agg #[.int .i64 x, .int .i64 d]) (by simp [results, Try.results8, go_sem]) rfl ⟨rfl, below_two⟩
    · have j2 : (what == 2) = false := by simpa using k2
      rw [if_neg k2] at hx
      subst hx
      go_enter Try.func8, Try.ntmps8
      go_wp2
      refine bodyPost_ret (v := .agg #[.int .i64 o, .int .i64 d]) (by simp [results, Try.results8, go_sem]) rfl ⟨rfl, below_two⟩

set_option maxHeartbeats 800000 in
theorem refStep_any (o d what : Int) (b : Bool) (h0 : 0 ≤ o) (h1 : o ≤ d) (h2 : d ≤ 16) (w : World) : Calls Try.prog 9 #[.int .i64 o, .int .i64 d, .int .i64 what, .bool b] w (Says w (.int .i64 (so o d what b))) := by
  obtain ⟨x, hx⟩ : ∃ x, so o d what b = x := ⟨_, rfl⟩
  rw [hx]
  unfold so at hx
  have e1 : IntKind.i64.wrap (o + 1) = o + 1 := IntWalk.i64_in _ (by omega)
  have e2 : IntKind.i64.wrap (o - 1) = o - 1 := IntWalk.i64_in _ (by omega)
  by_cases k1 : what = 1
  · rw [if_pos k1] at hx
    subst k1
    by_cases k3 : o < d
    · have HX : Hid (o + 1 = x) := Lib.hid (by rw [← hx, if_pos k3])
      clear hx
      go_enter Try.func9, Try.ntmps9
      go_wp2
      go_ret
      exact ⟨ret_int HX.out, Below.refl _ _⟩
    · have HX : Hid (o = x) := Lib.hid (by rw [← hx, if_neg k3])
      clear hx
      go_enter Try.func9, Try.ntmps9
      go_wp2
      go_ret
      exact ⟨ret_int HX.out, Below.refl _ _⟩
  · have j1 : (what == 1) = false := by simpa using k1
    rw [if_neg k1] at hx
    by_cases k2 : what = 2
    · rw [if_pos k2] at hx
      subst k2
      by_cases k3 : 0 < o
      · cases b with
        | true =>
          have HX : Hid (o = x) := Lib.hid (by rw [← hx]; rfl)
          clear hx
          go_enter Try.func9, Try.ntmps9
          go_wp2
          go_ret
          exact ⟨ret_int HX.out, Below.refl _ _⟩
        | false =>
          have HX : Hid (o - 1 = x) := Lib.hid (by rw [← hx, if_neg (by decide), if_pos k3])
          clear hx
          go_enter Try.func9, Try.ntmps9
          go_wp2
          go_ret
          exact ⟨ret_int HX.out, Below.refl _ _⟩
      · have HX : Hid (o = x) := Lib.hid (by rw [← hx, if_neg k3]; split <;> rfl)
        clear hx
        go_enter Try.func9, Try.ntmps9
        go_wp2
        go_ret
        exact ⟨ret_int HX.out, Below.refl _ _⟩
    · have j2 : (what == 2) = false := by simpa using k2
      rw [if_neg k2] at hx
      subst hx
      go_enter Try.func9, Try.ntmps9
      go_wp2
      go_ret
      exact ⟨rfl, Below.refl _ _⟩

set_option maxHeartbeats 1600000 in
theorem awake_any (w : World) : Calls Try.prog 7 #[] w (Says w (.bool true)) := by
  have hm : L.May ⟨1, 4⟩ := ⟨by decide, by decide, by decide, by decide⟩
  have H1 : Hid (∀ W, Calls Try.prog 8 #[.agg #[.int .i64 1, .int .i64 4], .int .i64 2, .bool false] W (Says W (.agg #[.int .i64 0, .int .i64 4]))) := Lib.hid fun W => Step_any ⟨1, 4⟩ hm 2 false W
  have H2 : Hid (∀ W, Calls Try.prog 8 #[.agg #[.int .i64 1, .int .i64 4], .int .i64 2, .bool true] W (Says W (.agg #[.int .i64 1, .int .i64 4]))) := Lib.hid fun W => Step_any ⟨1, 4⟩ hm 2 true W
  have H3 : Hid (∀ W, Calls Try.prog 8 #[.agg #[.int .i64 1, .int .i64 4], .int .i64 1, .bool true] W (Says W (.agg #[.int .i64 2, .int .i64 4]))) := Lib.hid fun W => Step_any ⟨1, 4⟩ hm 1 true W
  have H4 : Hid (∀ W, Calls Try.prog 12 #[.agg #[.int .i64 1, .int .i64 4]] W (Says W (.int .i64 3))) := Lib.hid fun W => Left_any ⟨1, 4⟩ hm W
  clear hm
  have HJ := Lib.hid (J.one w #[.int .i64 1, .int .i64 4] 24)
  have hfd := fld0
  go_enter Try.func7, Try.ntmps7
  go_wp2_with (first
    | (go_at_call 8; (with_reducible refine (H1.out _).mono ?_); clear H1; rintro e w1 ⟨rfl, h1⟩; have hj1 := Lib.hid (HJ.out.next h1); clear h1 HJ; obtain ⟨a0, a1⟩ := (hj1.out.bx 0 rfl).c2)
    | (go_at_call 8; (with_reducible refine (H2.out _).mono ?_); clear H2 a0 a1; rintro e w2 ⟨rfl, h2⟩; have hj2 := Lib.hid (hj1.out.next h2); clear h2; obtain ⟨a0, a1⟩ := (hj2.out.bx 0 rfl).c2)
    | (go_at_call 8; (with_reducible refine (H3.out _).mono ?_); clear H3 a0 a1; rintro e w3 ⟨rfl, h3⟩; have hj3 := Lib.hid (hj2.out.next h3); clear h3; obtain ⟨a0, a1⟩ := (hj3.out.bx 0 rfl).c2)
    | (go_at_call 12; (with_reducible refine (H4.out _).mono ?_); clear H4; rintro e w4 ⟨rfl, h4⟩; have hj4 := Lib.hid (hj3.out.next h4)))
  go_ret
  exact ⟨rfl, hj4.out.below⟩

end Go.Proofs.Ytnkdfebfniamoaa.Lef
