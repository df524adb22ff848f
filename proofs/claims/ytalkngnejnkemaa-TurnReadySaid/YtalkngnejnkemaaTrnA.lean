/- Contracts of turn's functions: None, begun, ring, rest. -/
import Derived.Test.YtalkngnejnkemaaOrdE0
import Derived.Test.YtalkngnejnkemaaTrnP
import Derived.Test.YtalkngnejnkemaaHeld
import Derived.Laws.StructEq
import Derived.Deep.OwnRows
import Derived.LoopN
namespace Go.Proofs.Ytalkngnejnkemaa.Trn
open Go.RowKit Go.Proofs.Ytalkngnejnkemaa.Plain Go.Proofs.Ytalkngnejnkemaa.OrdP Go.Proofs.Ytalkngnejnkemaa.TrnP Go.Proofs.Ytalkngnejnkemaa.Ord Go.Proofs.Ytalkngnejnkemaa.Sees Go.Proofs.Ytalkngnejnkemaa.Box Go.Proofs.Ytalkngnejnkemaa.Held
set_option linter.unusedVariables false

/-- a turn as a value, as cells -/
def val (t : T) : Value := .agg #[.int .i64 t.c, .int .i64 t.l]
def arr (t : T) : Array Value := #[.int .i64 t.c, .int .i64 t.l]

theorem None_any (w : World) : Calls Try.prog 12 #[] w (Says w (.agg #[.int .i64 (-1), .int .i64 0])) := by
  go_enter Try.func12, Try.ntmps12
  go_wp2
  refine bodyPost_ret (v := .agg #[.int .i64 (-1), .int .i64 0]) (by simp [results, Try.results12, go_sem]) rfl ⟨rfl, below_box⟩

theorem begun_any (c p : Int) (w : World) : Calls Try.prog 16 #[.int .i64 c, .int .i64 p] w (Says w (val (bg c p))) := by
  have HN := Lib.hid (fun W => None_any W)
  by_cases h : c < 0
  · rw [bg_neg p h]
    unfold val no
    have hj := Lib.hid (J.one w #[.int .i64 0, .int .i64 0] 23)
    go_enter Try.func16, Try.ntmps16
    go_wp2_with (go_at_call 12; refine (HN.out _).mono ?_; rintro e w1 ⟨rfl, h1⟩; have hj1 := Lib.hid (hj.out.next h1); clear h1 hj; obtain ⟨a0, a1⟩ := (hj1.out.bx 0 rfl).c2; obtain ⟨f0, f1⟩ := (hj1.out.bx 0 rfl).f2)
    have hj3 := (hj1.out.set 0 (.int .i64 (-1)) (X := w.heap.size) (by omega)).set 1 (.int .i64 0) (X := w.heap.size) (by omega)
    refine bodyPost_ret (v := .agg #[.int .i64 (-1), .int .i64 0]) (by simp [results, Try.results16, go_sem, *]) rfl ⟨rfl, hj3.below⟩
  · rw [bg_pos p (by omega)]
    unfold val
    simp only
    have m1 : ∀ W, (Builtin.max_ #[3, 3] 3 #[.int .i64 1, .int .i64 p]).run Try.prog W = .ok (.int .i64 (max 1 p)) W := fun W => by
      rw [run_max_int2]; congr 2; split <;> omega
    generalize max 1 p = y at *
    go_enter Try.func16, Try.ntmps16
    go_wp2
    refine bodyPost_ret (v := .agg #[.int .i64 c, .int .i64 y]) (by simp [results, Try.results16, go_sem]) rfl ⟨rfl, below_box⟩

/-- what is left of a turn a tick on -/
def rs (t : T) (r : Nat) (b : Bool) : T := if hb r t.c = false then no else if b = true then t else if t.l ≤ 1 then no else ⟨t.c, t.l - 1⟩

set_option maxHeartbeats 800000 in
theorem rest_any (t : T) (r : Nat) (b : Bool) (hr : r < 18446744073709551616) (ht : t.l < 9223372036854775808) (w : World) : Calls Try.prog 19 #[val t, .int .u64 r, .bool b] w (Says w (val (rs t r b))) := by
  have HN := Lib.hid (fun W => None_any W)
  have HH : Hid (∀ W, Calls Try.prog 13 #[.int .u64 r, .int .i64 t.c] W fun e w' => e = .returned (.bool (hb r t.c)) ∧ W = w') := Lib.hid fun W => Has_any r t.c W hr
  unfold rs
  generalize hb r t.c = h at *
  obtain ⟨c, l⟩ := t
  unfold val
  simp only at *
  cases h
  · rw [if_pos rfl]
    unfold no
    have hj := Lib.hid (J.two w #[.int .i64 c, .int .i64 l] #[.int .i64 0, .int .i64 0] 23 23)
    go_enter Try.func19, Try.ntmps19
    go_wp2_with (first
      | (go_at_call 13; refine (HH.out _).mono ?_; rintro e w' ⟨rfl, rfl⟩)
      | (go_at_call 12; refine (HN.out _).mono ?_; rintro e w1 ⟨rfl, h1⟩; have hj1 := Lib.hid (hj.out.next h1); clear h1 hj; obtain ⟨a0, a1⟩ := (hj1.out.bx 0 rfl).c2; obtain ⟨f0, f1⟩ := (hj1.out.bx 0 rfl).f2))
    have hj3 := (hj1.out.set 0 (.int .i64 (-1)) (X := w.heap.size + 1) (by omega)).set 1 (.int .i64 0) (X := w.heap.size + 1) (by omega)
    refine bodyPost_ret (v := .agg #[.int .i64 (-1), .int .i64 0]) (by simp [results, Try.results19, go_sem, *]) rfl ⟨rfl, hj3.below⟩
  · rw [if_neg (by decide)]
    cases b
    · rw [if_neg (by decide)]
      by_cases k : l ≤ 1
      · rw [if_pos k]
        unfold no
        have hj := Lib.hid (J.two w #[.int .i64 c, .int .i64 l] #[.int .i64 0, .int .i64 0] 23 23)
        go_enter Try.func19, Try.ntmps19
        go_wp2_with (first
          | (go_at_call 13; refine (HH.out _).mono ?_; rintro e w' ⟨rfl, rfl⟩)
          | (go_at_call 12; refine (HN.out _).mono ?_; rintro e w1 ⟨rfl, h1⟩; have hj1 := Lib.hid (hj.out.next h1); clear h1 hj; obtain ⟨a0, a1⟩ := (hj1.out.bx 0 rfl).c2; obtain ⟨f0, f1⟩ := (hj1.out.bx 0 rfl).f2))
        have hj3 := (hj1.out.set 0 (.int .i64 (-1)) (X := w.heap.size + 1) (by omega)).set 1 (.int .i64 0) (X := w.heap.size + 1) (by omega)
        refine bodyPost_ret (v := .agg #[.int .i64 (-1), .int .i64 0]) (by simp [results, Try.results19, go_sem, *]) rfl ⟨rfl, hj3.below⟩
      · rw [if_neg k]
        have e1 : IntKind.i64.wrap (l - 1) = l - 1 := IntWalk.i64_in _ (by omega)
        have hj := Lib.hid (J.two w #[.int .i64 c, .int .i64 l] #[.int .i64 0, .int .i64 0] 23 23)
        clear ht
        go_enter Try.func19, Try.ntmps19
        go_wp2_with (go_at_call 13; refine (HH.out _).mono ?_; rintro e w' ⟨rfl, rfl⟩)
        have hj3 := ((J.two w #[.int .i64 c, .int .i64 l] #[.int .i64 0, .int .i64 0] 23 23).set 1 (.int .i64 (l - 1)) (X := w.heap.size) (by omega)).set 0 (.int .i64 c) (X := w.heap.size + 1) (by omega) |>.set 1 (.int .i64 (l - 1)) (X := w.heap.size + 1) (by omega)
        refine bodyPost_ret (v := .agg #[.int .i64 c, .int .i64 (l - 1)]) (by simp [results, Try.results19, go_sem, *]) rfl ⟨rfl, ?_⟩
        first | exact hj3.below | exact below_two
    · rw [if_pos rfl]
      go_enter Try.func19, Try.ntmps19
      go_wp2_with (go_at_call 13; refine (HH.out _).mono ?_; rintro e w' ⟨rfl, rfl⟩)
      refine bodyPost_ret (v := .agg #[.int .i64 c, .int .i64 l]) (by simp [results, Try.results19, go_sem, *]) rfl ⟨rfl, ?_⟩
      exact below_two

end Go.Proofs.Ytalkngnejnkemaa.Trn
