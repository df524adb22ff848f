/- Contracts of leaf.Shut, leaf.Step. -/
import Derived.Test.YtaknnkmdfimcbaaHeld
import Derived.Test.YtaknnkmdfimcbaaLefP
namespace Go.Proofs.Ytaknnkmdfimcbaa.Lef
open Go.RowKit Go.Proofs.Ytaknnkmdfimcbaa.LefP Go.Proofs.Ytaknnkmdfimcbaa.Box Go.Proofs.Ytaknnkmdfimcbaa.Held
set_option linter.unusedVariables false

/-- doors as a value, as cells -/
def val (c : L) : Value := .agg #[.int .i64 c.o, .int .i64 c.d]

def arr (c : L) : Array Value := #[.int .i64 c.o, .int .i64 c.d]

theorem jfill2 {w W : World} {bs : List (Nat × Array Value)} {X : Nat} {a b x y : Value} (h : J w W ((X, #[a, b]) :: bs)) (hX : w.heap.size ≤ X) (hne : ∀ x ∈ bs, x.1 ≠ X) : J w ((W.setCell ⟨X, 0, none⟩ x).setCell ⟨X, 1, none⟩ y) ((X, #[x, y]) :: bs) :=
  (h.put hX hne 0 x).put hX hne 1 y

theorem jswap {w W : World} {a b : Nat × Array Value} (h : J w W [a, b]) : J w W [b, a] := h.less fun x hx => by
  simp only [List.mem_cons, List.not_mem_nil, or_false] at hx ⊢; exact hx.symm

theorem jhead {w W : World} {b : Nat × Array Value} {bs : List (Nat × Array Value)} (h : J w W (b :: bs)) : J w W [b] := h.less fun x hx => by rw [List.mem_singleton.1 hx]; exact List.mem_cons_self

/-- a call's result's first field -/
theorem fld0 (a b : Int) (W : World) : (Instr.field 25 (.agg #[.int .i64 a, .int .i64 b]) 0).run Try.prog W = .ok (.int .i64 a) W := by kernel_rfl

theorem Shut_any (c : L) (w : World) : Calls Try.prog 17 #[val c] w (Says w (.bool (decide (c.o = 0)))) := by
  obtain ⟨o, d⟩ := c
  unfold val
  go_enter Try.func17, Try.ntmps17
  go_wp2
  go_ret
  first | exact ⟨rfl, below_box⟩ | exact ⟨ret_bool (by simp), below_box⟩

set_option maxHeartbeats 800000 in
theorem Step_any (c : L) (h : c.May) (what : Int) (b : Bool) (w : World) : Calls Try.prog 14 #[val c, .int .i64 what, .bool b] w (Says w (val (st c what b))) := by
  obtain ⟨o, d⟩ := c
  obtain ⟨h1, h2, h3, h4⟩ := h
  unfold st
  simp only at h1 h2 h3 h4 ⊢
  obtain ⟨x, hx⟩ : ∃ x, so o d what b = x := ⟨_, rfl⟩
  rw [hx]
  unfold so at hx
  unfold val
  simp only
  by_cases k1 : what = 1
  · rw [if_pos k1] at hx
    subst k1
    have e1 : IntKind.i64.wrap (o + 1) = o + 1 := IntWalk.i64_in _ (by omega)
    have m1 : ∀ W, (Builtin.min_ #[3, 3] 3 #[.int .i64 (o + 1), .int .i64 d]).run Try.prog W = .ok (.int .i64 (min (o + 1) d)) W := fun W => by
      rw [run_min_int2]; congr 2; split <;> omega
    have m2 : ∀ W, (Builtin.max_ #[3, 3] 3 #[.int .i64 0, .int .i64 (min (o + 1) d)]).run Try.prog W = .ok (.int .i64 x) W := fun W => by
      rw [run_max_int2]; congr 2; rw [← hx]; split <;> split <;> omega
    clear hx
    generalize min (o + 1) d = k at *
    go_enter Try.func14, Try.ntmps14
    go_wp2
    refine bodyPost_ret (v := .agg #[.int .i64 x, .int .i64 d]) (by simp [results, Try.results14, go_sem]) rfl ⟨rfl, below_two⟩
  · have j1 : (what == 1) = false := by simpa using k1
    rw [if_neg k1] at hx
    by_cases k2 : what = 2
    · rw [if_pos k2] at hx
      subst k2
      cases b with
      | true =>
        simp only [if_true] at hx
        subst hx
        go_enter Try.func14, Try.ntmps14
        go_wp2
        refine bodyPost_ret (v := .agg #[.int .i64 o, .int .i64 d]) (by simp [results, Try.results14, go_sem]) rfl ⟨rfl, below_two⟩
      | false =>
        rw [if_neg (by decide)] at hx
        have e1 : IntKind.i64.wrap (o + -1) = o + -1 := IntWalk.i64_in _ (by omega)
        have m1 : ∀ W, (Builtin.min_ #[3, 3] 3 #[.int .i64 (o + -1), .int .i64 d]).run Try.prog W = .ok (.int .i64 (min (o + -1) d)) W := fun W => by
          rw [run_min_int2]; congr 2; split <;> omega
        have m2 : ∀ W, (Builtin.max_ #[3, 3] 3 #[.int .i64 0, .int .i64 (min (o + -1) d)]).run Try.prog W = .ok (.int .i64 x) W := fun W => by
          rw [run_max_int2]; congr 2; rw [← hx]; split <;> split <;> omega
        clear hx
        generalize min (o + -1) d = k at *
        go_enter Try.func14, Try.ntmps14
        go_wp2
        refine bodyPost_ret (v := .agg #[.int .i64 x, .int .i64 d]) (by simp [results, Try.results14, go_sem]) rfl ⟨rfl, below_two⟩
    · have j2 : (what == 2) = false := by simpa using k2
      rw [if_neg k2] at hx
      subst hx
      go_enter Try.func14, Try.ntmps14
      go_wp2
      refine bodyPost_ret (v := .agg #[.int .i64 o, .int .i64 d]) (by simp [results, Try.results14, go_sem]) rfl ⟨rfl, below_two⟩

end Go.Proofs.Ytaknnkmdfimcbaa.Lef
