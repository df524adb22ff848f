/- Contracts of turn's Step, Pick. -/
import Derived.Test.YtalkngnejnkemaaTrnC
namespace Go.Proofs.Ytalkngnejnkemaa.Trn
open Go.RowKit Go.Proofs.Ytalkngnejnkemaa.Plain Go.Proofs.Ytalkngnejnkemaa.OrdP Go.Proofs.Ytalkngnejnkemaa.TrnP Go.Proofs.Ytalkngnejnkemaa.Ord Go.Proofs.Ytalkngnejnkemaa.Sees Go.Proofs.Ytalkngnejnkemaa.Box Go.Proofs.Ytalkngnejnkemaa.Held
set_option linter.unusedVariables false

theorem st_rs (t : T) (r : Nat) (b : Bool) (p : Int) : (rs t r b = no ∧ st t r b p = bg (nb r t.c) p) ∨ (rs t r b ≠ no ∧ st t r b p = rs t r b) := by
  have hne : ∀ l, hb r t.c = true → (⟨t.c, l⟩ : T) ≠ no := fun l h e => by
    have h0 := hb_ge h
    have : t.c = -1 := congrArg T.c e
    omega
  unfold rs st
  by_cases h : hb r t.c = false
  · rw [if_pos h, if_pos h]; exact .inl ⟨rfl, rfl⟩
  · have h' : hb r t.c = true := by simpa using h
    rw [if_neg h, if_neg h]
    by_cases k : b = true
    · rw [if_pos k, if_pos k]; exact .inr ⟨hne t.l h', rfl⟩
    · rw [if_neg k, if_neg k]
      by_cases q : t.l ≤ 1
      · rw [if_pos q, if_pos q]; exact .inl ⟨rfl, rfl⟩
      · rw [if_neg q, if_neg q]; exact .inr ⟨hne _ h', rfl⟩

/-- four blocks of a call's own -/
theorem jfour (w : World) (c0 c1 c2 c3 : Array Value) (t0 t1 t2 t3 : TypeId) : J w ((((w.alloc (.cells c0 t0)).alloc (.cells c1 t1)).alloc (.cells c2 t2)).alloc (.cells c3 t3)) [(w.heap.size + 3, c3), (w.heap.size + 2, c2), (w.heap.size + 1, c1), (w.heap.size, c0)] := by
  have := (J.three w c0 c1 c2 t0 t1 t2).push c3 t3
  rwa [World.size_alloc, World.size_alloc, World.size_alloc] at this

set_option maxHeartbeats 1600000 in
theorem Step_any (t : T) (r : Nat) (b : Bool) (p : Int) (hr : r < 18446744073709551616) (ht : t.l < 9223372036854775808) (w : World) :
    Calls Try.prog 8 #[val t, .int .u64 r, .bool b, .int .i64 p] w (Says w (val (st t r b p))) := by
  have hmf : ∀ (fn : Fn) (first cap : Array Value) (w : World), (Instr.makeFunc fn first cap).run Try.prog w = .ok (.func fn first cap) w := fun _ _ _ _ => rfl
  have HR : Hid (∀ W, Calls Try.prog 19 #[val t, .int .u64 r, .bool b] W (Says W (val (rs t r b)))) := Lib.hid fun W => rest_any t r b hr ht W
  have hj := Lib.hid (jfour w (arr t) #[.int .u64 r] #[.int .i64 p] #[.int .i64 0, .int .i64 0] 23 24 3 23)
  have HO : Hid (∀ W, Hid (J w W [(w.heap.size + 3, #[.int .i64 0, .int .i64 0]), (w.heap.size + 2, #[.int .i64 p]), (w.heap.size + 1, #[.int .u64 r]), (w.heap.size, arr t)]) →
      Calls Try.prog 20 #[val (rs t r b), .func (.func 15) #[] #[.pointer (some ⟨w.heap.size, 0, none⟩), .pointer (some ⟨w.heap.size + 1, 0, none⟩), .pointer (some ⟨w.heap.size + 2, 0, none⟩)]] W (Says W (val (st t r b p)))) := Lib.hid fun W hW => by
    rcases st_rs t r b p with ⟨h1, h2⟩ | ⟨h1, h2⟩
    · rw [h1, h2]
      exact or_next (bg (nb r t.c) p) w.heap.size (w.heap.size + 1) (w.heap.size + 2) W fun W' hb => next_any t r p hr _ _ _ W' ((hW.out.bx 3 rfl).next hb.out) ((hW.out.bx 2 rfl).next hb.out) ((hW.out.bx 1 rfl).next hb.out)
    · rw [h2]
      exact or_stays _ h1 _ W
  generalize st t r b p = u at *
  generalize rs t r b = v at *
  obtain ⟨c, l⟩ := t
  obtain ⟨uc, ul⟩ := u
  unfold val arr at *
  simp only at *
  clear hr ht
  go_enter Try.func8, Try.ntmps8
  go_wp2_with (first
    | (go_at_call 19; (with_reducible refine (HR.out _).mono ?_); rintro e w1 ⟨rfl, h1⟩; have hj1 := Lib.hid (hj.out.next h1); clear h1 hj)
    | (go_at_call 20; refine (HO.out _ hj1).mono ?_; rintro e w2 ⟨rfl, h2⟩; have hj2 := Lib.hid (hj1.out.next h2); clear h2 hj1; obtain ⟨g0, g1⟩ := (hj2.out.bx 0 rfl).c2; obtain ⟨g2, g3⟩ := (hj2.out.bx 0 rfl).f2))
  have hj3 := (hj2.out.set 0 (.int .i64 uc) (X := w.heap.size + 3) (by omega)).set 1 (.int .i64 ul) (X := w.heap.size + 3) (by omega)
  refine bodyPost_ret (v := .agg #[.int .i64 uc, .int .i64 ul]) (by simp [results, Try.results8, go_sem, *]) rfl ⟨rfl, hj3.below⟩

set_option maxHeartbeats 1600000 in
theorem Pick_any (t : T) (k : Int) (r : Nat) (b : Bool) (p : Int) (hr : r < 18446744073709551616) (w : World) :
    Calls Try.prog 10 #[val t, .int .i64 k, .int .u64 r, .bool b, .int .i64 p] w (Says w (.tuple #[val (pk t k r b p), .bool (!b && hb r k)])) := by
  have HH : Hid (∀ W, Calls Try.prog 13 #[.int .u64 r, .int .i64 k] W fun e w' => e = .returned (.bool (hb r k)) ∧ W = w') := Lib.hid fun W => Has_any r k W hr
  have HB : Hid (∀ W, Calls Try.prog 16 #[.int .i64 k, .int .i64 p] W (Says W (val (bg k p)))) := Lib.hid fun W => begun_any k p W
  have hj := Lib.hid (J.two w (arr t) #[.int .i64 0, .int .i64 0] 23 23)
  unfold pk
  generalize hb r k = h at *
  generalize bg k p = u at *
  obtain ⟨c, l⟩ := t
  obtain ⟨uc, ul⟩ := u
  unfold val arr at *
  simp only at *
  clear hr
  cases b
  · cases h
    · simp only [Bool.not_false, Bool.or_true, if_true, Bool.and_false]
      go_enter Try.func10, Try.ntmps10
      go_wp2_with (go_at_call 13; refine (HH.out _).mono ?_; rintro e w' ⟨rfl, rfl⟩)
      refine bodyPost_ret (v := .tuple #[.agg #[.int .i64 c, .int .i64 l], .bool false]) (by simp [results, Try.results10, go_sem, *]) rfl ⟨rfl, below_two⟩
    · simp only [Bool.not_true, Bool.or_self, Bool.false_eq_true, if_false, Bool.not_false, Bool.and_self]
      go_enter Try.func10, Try.ntmps10
      go_wp2_with (first
        | (go_at_call 13; refine (HH.out _).mono ?_; rintro e w' ⟨rfl, rfl⟩)
        | (go_at_call 16; (with_reducible refine (HB.out _).mono ?_); rintro e w1 ⟨rfl, h1⟩; have hj1 := Lib.hid (hj.out.next h1); clear h1 hj; obtain ⟨g0, g1⟩ := (hj1.out.bx 0 rfl).c2; obtain ⟨g2, g3⟩ := (hj1.out.bx 0 rfl).f2))
      have hj3 := (hj1.out.set 0 (.int .i64 uc) (X := w.heap.size + 1) (by omega)).set 1 (.int .i64 ul) (X := w.heap.size + 1) (by omega)
      refine bodyPost_ret (v := .tuple #[.agg #[.int .i64 uc, .int .i64 ul], .bool true]) (by simp [results, Try.results10, go_sem, *]) rfl ⟨rfl, hj3.below⟩
  · simp only [Bool.true_or, if_true, Bool.not_true, Bool.false_and]
    go_enter Try.func10, Try.ntmps10
    go_wp2
    refine bodyPost_ret (v := .tuple #[.agg #[.int .i64 c, .int .i64 l], .bool false]) (by simp [results, Try.results10, go_sem, *]) rfl ⟨rfl, below_two⟩
end Go.Proofs.Ytalkngnejnkemaa.Trn
