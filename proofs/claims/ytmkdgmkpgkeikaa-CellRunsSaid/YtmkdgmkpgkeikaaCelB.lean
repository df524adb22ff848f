/- Contracts of cell.Spend, cell.Fill, of layer 9's reference, awake. -/
import Derived.Test.YtmkdgmkpgkeikaaCelA
import Derived.Laws.StructEq
namespace Go.Proofs.Ytmkdgmkpgkeikaa.Cel
open Go.RowKit Go.Proofs.Ytmkdgmkpgkeikaa.CelP Go.Proofs.Ytmkdgmkpgkeikaa.SatP Go.Proofs.Ytmkdgmkpgkeikaa.Box Go.Proofs.Ytmkdgmkpgkeikaa.Held
set_option linter.unusedVariables false

theorem jset2 {w W : World} {h f u v y z : Int} (hj : J w W [(w.heap.size + 1, #[.int .i64 u, .int .i64 v]), (w.heap.size, #[.int .i64 h, .int .i64 f])]) :
    J w (((W.setCell ⟨w.heap.size, 0, none⟩ (.int .i64 y)).setCell ⟨w.heap.size + 1, 0, none⟩ (.int .i64 y)).setCell ⟨w.heap.size + 1, 1, none⟩ (.int .i64 z)) [(w.heap.size + 1, #[.int .i64 y, .int .i64 z]), (w.heap.size, #[.int .i64 y, .int .i64 f])] := by
  have := ((hj.set 0 (.int .i64 y) (X := w.heap.size) (by omega)).set 0 (.int .i64 y) (X := w.heap.size + 1) (by omega)).set 1 (.int .i64 z) (X := w.heap.size + 1) (by omega)
  simpa using this

set_option maxHeartbeats 800000 in
theorem changed_sp (h f n : Int) (g : Nat) (w : World) (h0 : 0 ≤ h) (h1 : h ≤ 1048576) (hn : am n ≤ h) (hg : w.cell? ⟨g, 0, none⟩ = some (.int .i64 n)) (lt : g < w.heap.size) :
    Calls Try.prog 13 #[.agg #[.int .i64 h, .int .i64 f], .func (.func 14) #[] #[.pointer (some ⟨g, 0, none⟩)]] w (Says w (.agg #[.int .i64 (h - am n), .int .i64 f])) := by
  have H1 : Hid (∀ W, Below w.heap.size w W → Calls Try.prog 14 #[.int .i64 h, .pointer (some ⟨g, 0, none⟩)] W (Says W (.int .i64 (h - am n)))) := Lib.hid fun W hb => spend1_any h n g W h0 h1 hn ((hb.cell (p := ⟨g, 0, none⟩) lt).trans hg)
  have hj := Lib.hid (J.two w #[.int .i64 h, .int .i64 f] #[.int .i64 0, .int .i64 0] 25 25)
  have HB := Lib.hid hj.out.below
  clear h0 h1 hn hg lt
  generalize h - am n = y at *
  go_enter Try.func13, Try.ntmps13
  go_wp2_with (go_at_call 14; (with_reducible refine (H1.out _ HB.out).mono ?_); clear H1; rintro e w1 ⟨rfl, k1⟩; have hj1 := Lib.hid (hj.out.next k1); clear k1; obtain ⟨a0, a1⟩ := (hj1.out.bx 1 rfl).c2; obtain ⟨f0, f1⟩ := (hj1.out.bx 1 rfl).f2; obtain ⟨b0, b1⟩ := (hj1.out.bx 0 rfl).c2; obtain ⟨d0, d1⟩ := (hj1.out.bx 0 rfl).f2)
  have hj2 := jset2 (y := y) (z := f) hj1.out
  obtain ⟨c0, c1⟩ := (hj2.bx 0 rfl).c2
  refine bodyPost_ret (v := .agg #[.int .i64 y, .int .i64 f]) (by simp [results, Try.results13, go_sem, *]) rfl ⟨rfl, hj2.below⟩

set_option maxHeartbeats 800000 in
theorem changed_fl (h f n : Int) (g X : Nat) (w : World) (hm : K.May ⟨h, f⟩) (hg : w.cell? ⟨g, 0, none⟩ = some (.int .i64 n)) (lt : g < w.heap.size) (hX : w.cell? ⟨X, 1, none⟩ = some (.int .i64 f)) (lX : X < w.heap.size) :
    Calls Try.prog 13 #[.agg #[.int .i64 h, .int .i64 f], .func (.func 16) #[] #[.pointer (some ⟨g, 0, none⟩), .pointer (some ⟨X, 0, none⟩)]] w (Says w (.agg #[.int .i64 (fi h f n), .int .i64 f])) := by
  have H1 : Hid (∀ W, Below w.heap.size w W → Calls Try.prog 16 #[.int .i64 h, .pointer (some ⟨g, 0, none⟩), .pointer (some ⟨X, 0, none⟩)] W (Says W (.int .i64 (fi h f n)))) := Lib.hid fun W hb => fill1_any ⟨h, f⟩ n g X W hm ((hb.cell (p := ⟨g, 0, none⟩) lt).trans hg) ((hb.cell (p := ⟨X, 1, none⟩) lX).trans hX) (Nat.lt_of_lt_of_le lX hb.size)
  have hj := Lib.hid (J.two w #[.int .i64 h, .int .i64 f] #[.int .i64 0, .int .i64 0] 25 25)
  have HB := Lib.hid hj.out.below
  clear hm hg lt hX lX
  generalize fi h f n = y at *
  go_enter Try.func13, Try.ntmps13
  go_wp2_with (go_at_call 16; (with_reducible refine (H1.out _ HB.out).mono ?_); clear H1; rintro e w1 ⟨rfl, k1⟩; have hj1 := Lib.hid (hj.out.next k1); clear k1; obtain ⟨a0, a1⟩ := (hj1.out.bx 1 rfl).c2; obtain ⟨f0, f1⟩ := (hj1.out.bx 1 rfl).f2; obtain ⟨b0, b1⟩ := (hj1.out.bx 0 rfl).c2; obtain ⟨d0, d1⟩ := (hj1.out.bx 0 rfl).f2)
  have hj2 := jset2 (y := y) (z := f) hj1.out
  obtain ⟨c0, c1⟩ := (hj2.bx 0 rfl).c2
  refine bodyPost_ret (v := .agg #[.int .i64 y, .int .i64 f]) (by simp [results, Try.results13, go_sem, *]) rfl ⟨rfl, hj2.below⟩

/-- three boxes of a call's own -/
theorem jthree (w : World) (h f n : Int) : J w (((w.alloc (.cells #[.int .i64 h, .int .i64 f] 25)).alloc (.cells #[.int .i64 n] 3)).alloc (.cells #[.int .i64 0, .int .i64 0] 25)) [(w.heap.size + 2, #[.int .i64 0, .int .i64 0]), (w.heap.size + 1, #[.int .i64 n]), (w.heap.size, #[.int .i64 h, .int .i64 f])] :=
  J.three w _ _ _ _ _ _
theorem jset3 {w W : World} {bs : List (Nat × Array Value)} {u v y z : Int} (hj : J w W ((w.heap.size + 2, #[.int .i64 u, .int .i64 v]) :: bs)) (hne : ∀ x ∈ bs, x.1 ≠ w.heap.size + 2) :
    J w ((W.setCell ⟨w.heap.size + 2, 0, none⟩ (.int .i64 y)).setCell ⟨w.heap.size + 2, 1, none⟩ (.int .i64 z)) ((w.heap.size + 2, #[.int .i64 y, .int .i64 z]) :: bs) :=
  (hj.put (by omega) hne 0 _).put (by omega) hne 1 _

set_option maxHeartbeats 800000 in
theorem Fill_any (c : K) (hm : c.May) (n : Int) (w : World) : Calls Try.prog 10 #[val c, .int .i64 n] w (Says w (val (fl c n))) := by
  obtain ⟨h, f⟩ := c
  unfold val fl
  simp only
  have hj := Lib.hid (jthree w h f n)
  have H1 := Lib.hid (changed_fl h f n (w.heap.size + 1) w.heap.size _ hm (hj.out.bx 1 rfl).c1 (hj.out.bx 1 rfl).lt (hj.out.bx 2 rfl).c2.2 (hj.out.bx 2 rfl).lt)
  clear hm
  generalize fi h f n = y at *
  go_enter Try.func10, Try.ntmps10
  go_wp2_with (go_at_call 13; (with_reducible refine H1.out.mono ?_); clear H1; rintro e w1 ⟨rfl, k1⟩; have hj1 := Lib.hid (hj.out.next k1); clear k1; obtain ⟨b0, b1⟩ := (hj1.out.bx 0 rfl).c2; obtain ⟨d0, d1⟩ := (hj1.out.bx 0 rfl).f2)
  have hj2 := jset3 (y := y) (z := f) hj1.out (by simp)
  obtain ⟨c0, c1⟩ := (hj2.bx 0 rfl).c2
  refine bodyPost_ret (v := .agg #[.int .i64 y, .int .i64 f]) (by simp [results, Try.results10, go_sem, *]) rfl ⟨rfl, hj2.below⟩

set_option maxHeartbeats 800000 in
theorem Spend_any (c : K) (hm : c.May) (n : Int) (w : World) : Calls Try.prog 8 #[val c, .int .i64 n] w (Says w (.tuple #[val (sp c n), .bool (decide (am n ≤ c.h))])) := by
  obtain ⟨h, f⟩ := c
  have HC : Hid (∀ W, Calls Try.prog 12 #[.agg #[.int .i64 h, .int .i64 f], .int .i64 n] W (Says W (.bool (decide (am n ≤ h))))) := Lib.hid fun W => Can_any ⟨h, f⟩ n W
  have hj := Lib.hid (jthree w h f n)
  by_cases k : am n ≤ h
  · have H1 : Hid (∀ W, J w W [(w.heap.size + 2, #[.int .i64 0, .int .i64 0]), (w.heap.size + 1, #[.int .i64 n]), (w.heap.size, #[.int .i64 h, .int .i64 f])] → Calls Try.prog 13 #[.agg #[.int .i64 h, .int .i64 f], .func (.func 14) #[] #[.pointer (some ⟨w.heap.size + 1, 0, none⟩)]] W (Says W (.agg #[.int .i64 (h - am n), .int .i64 f]))) := Lib.hid fun W hJ =>
      changed_sp h f n (w.heap.size + 1) W hm.h0 (by have := hm.h1; have := hm.f1; simp only at *; omega) k (hJ.bx 1 rfl).c1 (hJ.bx 1 rfl).lt
    have e1 : sp ⟨h, f⟩ n = ⟨h - am n, f⟩ := by unfold sp; rw [if_pos k]
    have e2 : decide (am n ≤ h) = true := by simpa using k
    simp only
    rw [e1, e2]
    rw [e2] at HC
    clear e1 e2 k hm
    unfold val
    simp only
    generalize h - am n = y at *
    go_enter Try.func8, Try.ntmps8
    go_wp2_with (first
      | (go_at_call 12; (with_reducible refine (HC.out _).mono ?_); clear HC; rintro e w1 ⟨rfl, k1⟩; have hj1 := Lib.hid (hj.out.next k1); clear k1; obtain ⟨a0, a1⟩ := (hj1.out.bx 2 rfl).c2)
      | (go_at_call 13; (with_reducible refine (H1.out _ hj1.out).mono ?_); clear H1; rintro e w2 ⟨rfl, k2⟩; have hj2 := Lib.hid (hj1.out.next k2); clear k2; obtain ⟨b0, b1⟩ := (hj2.out.bx 0 rfl).c2; obtain ⟨d0, d1⟩ := (hj2.out.bx 0 rfl).f2))
    have hj3 := jset3 (y := y) (z := f) hj2.out (by simp)
    obtain ⟨c0, c1⟩ := (hj3.bx 0 rfl).c2
    refine bodyPost_ret (v := .tuple #[.agg #[.int .i64 y, .int .i64 f], .bool true]) (by simp [results, Try.results8, go_sem, *]) rfl ⟨rfl, hj3.below⟩
  · have e1 : sp ⟨h, f⟩ n = ⟨h, f⟩ := by unfold sp; rw [if_neg k]
    have e2 : decide (am n ≤ h) = false := by simpa using k
    simp only
    rw [e1, e2]
    rw [e2] at HC
    clear e1 e2 k hm
    unfold val
    simp only
    go_enter Try.func8, Try.ntmps8
    go_wp2_with (first
      | (go_at_call 12; (with_reducible refine (HC.out _).mono ?_); clear HC; rintro e w1 ⟨rfl, k1⟩; have hj1 := Lib.hid (hj.out.next k1); clear k1; obtain ⟨a0, a1⟩ := (hj1.out.bx 2 rfl).c2; obtain ⟨b0, b1⟩ := (hj1.out.bx 0 rfl).c2; obtain ⟨d0, d1⟩ := (hj1.out.bx 0 rfl).f2))
    have hj3 := jset3 (y := h) (z := f) hj1.out (by simp)
    obtain ⟨c0, c1⟩ := (hj3.bx 0 rfl).c2
    refine bodyPost_ret (v := .tuple #[.agg #[.int .i64 h, .int .i64 f], .bool false]) (by simp [results, Try.results8, go_sem, *]) rfl ⟨rfl, hj3.below⟩

end Go.Proofs.Ytmkdgmkpgkeikaa.Cel
