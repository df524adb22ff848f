/- Contracts of feed's switch, of its reference. -/
import Derived.Test.YtfcdfkodafikdaaHeld
import Derived.Test.YtfcdfkodafikdaaFedP
namespace Go.Proofs.Ytfcdfkodafikdaa.Fed
open Go.RowKit Go.Proofs.Ytfcdfkodafikdaa.FedP Go.Proofs.Ytfcdfkodafikdaa.Box Go.Proofs.Ytfcdfkodafikdaa.Held
set_option linter.unusedVariables false

/-- a switch as a value, as cells -/
def val (f : F) : Value := .agg #[.int .i64 f.a, .int .i64 f.t, .int .i64 f.l]

theorem is_any (n : Int) (w : World) : Calls Try.prog 18 #[.int .i64 n] w fun e w' => e = .returned (.bool (src n)) ∧ w = w' := by
  by_cases h1 : n = 1
  · subst h1
    rw [src_1]
    go_enter Try.func18, Try.ntmps18
    go_wp2
    go_ret
    exact ⟨rfl, rfl⟩
  · have j1 : (n == 1) = false := by simpa using h1
    obtain ⟨b, hb⟩ : ∃ b, src n = b := ⟨_, rfl⟩
    have j2 : (n == 2) = b := by rw [← hb]; unfold src; simp only [h1, false_or]; rfl
    rw [hb]
    clear hb
    go_enter Try.func18, Try.ntmps18
    go_wp2
    go_ret
    exact ⟨rfl, rfl⟩

theorem bounded_any (n lo hi : Int) (w : World) : Calls Try.prog 20 #[.int .i64 n, .int .i64 lo, .int .i64 hi] w fun e w' => e = .returned (.int .i64 (bo n lo hi)) ∧ w = w' := by
  unfold bo
  have m1 : ∀ W, (Builtin.min_ #[3, 3] 3 #[.int .i64 n, .int .i64 hi]).run Try.prog W = .ok (.int .i64 (min n hi)) W := fun W => by
    rw [run_min_int2]; congr 2; split <;> omega
  have m2 : ∀ W, (Builtin.max_ #[3, 3] 3 #[.int .i64 lo, .int .i64 (min n hi)]).run Try.prog W = .ok (.int .i64 (max lo (min n hi))) W := fun W => by
    rw [run_max_int2]; congr 2; split <;> omega
  generalize max lo (min n hi) = y at *
  generalize min n hi = x at *
  go_enter Try.func20, Try.ntmps20
  go_wp2
  go_ret
  exact ⟨rfl, rfl⟩

set_option maxHeartbeats 800000 in
theorem nearer_any (f : F) (h : f.l < 9223372036854775808) (w : World) : Calls Try.prog 19 #[val f] w (Says w (val (nr f))) := by
  obtain ⟨a, t, l⟩ := f
  simp only at h
  unfold nr val
  simp only
  have HI := Lib.hid (is_any t)
  have hj := Lib.hid (J.two w #[.int .i64 a, .int .i64 t, .int .i64 l] #[.int .i64 0, .int .i64 0, .int .i64 0] 23 23)
  by_cases k : 1 < l
  · rw [if_pos k]
    have e1 : IntKind.i64.wrap (l - 1) = l - 1 := IntWalk.i64_in _ (by omega)
    simp only
    obtain ⟨m, hm⟩ : ∃ m, l - 1 = m := ⟨_, rfl⟩
    rw [hm] at e1 ⊢
    have e2 : IntKind.i64.wrap (l - 1) = m := by rw [hm]; exact e1
    clear hm e1
    go_enter Try.func19, Try.ntmps19
    go_wp2
    refine bodyPost_ret (v := .agg #[.int .i64 a, .int .i64 t, .int .i64 m]) (by simp [results, Try.results19, go_sem, *]) rfl ⟨rfl, below_two⟩
  · rw [if_neg k]
    cases hs : src t with
    | true =>
      rw [if_pos rfl]
      rw [hs] at HI
      clear hs
      go_enter Try.func19, Try.ntmps19
      go_wp2_with (go_at_call 18; refine (HI.out _).mono ?_; rintro e w' ⟨rfl, rfl⟩)
      refine bodyPost_ret (v := .agg #[.int .i64 t, .int .i64 0, .int .i64 0]) (by simp [results, Try.results19, go_sem, *]) rfl ⟨rfl, below_two⟩
    | false =>
      rw [if_neg (by simp)]
      rw [hs] at HI
      clear hs
      go_enter Try.func19, Try.ntmps19
      go_wp2_with (go_at_call 18; refine (HI.out _).mono ?_; rintro e w' ⟨rfl, rfl⟩)
      refine bodyPost_ret (v := .agg #[.int .i64 1, .int .i64 0, .int .i64 0]) (by simp [results, Try.results19, go_sem, *]) rfl ⟨rfl, below_two⟩


set_option maxHeartbeats 800000 in
theorem Step_any (f : F) (h : f.l < 9223372036854775808) (want : Int) (still : Bool) (dead : Int) (w : World) : Calls Try.prog 10 #[val f, .int .i64 want, .bool still, .int .i64 dead] w (Says w (val (st f want still dead))) := by
  have HN := Lib.hid (nearer_any f h)
  have HI := Lib.hid is_any
  have HB := Lib.hid (bounded_any dead 1 200)
  obtain ⟨a, t, l⟩ := f
  unfold st
  simp only
  have hj := Lib.hid (J.two w #[.int .i64 a, .int .i64 t, .int .i64 l] #[.int .i64 0, .int .i64 0, .int .i64 0] 23 23)
  have HIa := Lib.hid (HI.out a)
  have HIw := Lib.hid (HI.out want)
  clear HI h
  cases hs : src a with
  | false =>
    rw [if_neg (by simp)]
    rw [hs] at HIa
    clear hs HIw HB
    generalize nr ⟨a, t, l⟩ = g at *
    obtain ⟨b, u, m⟩ := g
    unfold val at *
    simp only at HN ⊢
    go_enter Try.func10, Try.ntmps10
    go_wp2_with (first
      | (go_at_call 18; refine (HIa.out _).mono ?_; rintro e w' ⟨rfl, rfl⟩)
      | (go_at_call 19; (with_reducible refine (HN.out _).mono ?_); rintro e w1 ⟨rfl, h1⟩; have hj1 := Lib.hid (hj.out.next h1); obtain ⟨b0, b1, b2⟩ := (hj1.out.bx 0 rfl).c3; obtain ⟨g0, g1, g2⟩ := (hj1.out.bx 0 rfl).f3))
    have hj3 := ((J.set hj1.out 0 (.int .i64 b) (X := w.heap.size + 1) (by omega)).set 1 (.int .i64 u) (X := w.heap.size + 1) (by omega)).set 2 (.int .i64 m) (X := w.heap.size + 1) (by omega)
    refine bodyPost_ret (v := .agg #[.int .i64 b, .int .i64 u, .int .i64 m]) (by simp [results, Try.results10, go_sem, *]) rfl ⟨rfl, hj3.below⟩
  | true =>
    rw [if_pos rfl]
    rw [hs] at HIa
    clear hs HN
    unfold goes
    by_cases k1 : want = a
    · rw [decide_eq_false (by simp [k1]), if_neg (by simp)]
      subst k1
      clear HB HIw
      unfold val
      simp only
      go_enter Try.func10, Try.ntmps10
      go_wp2_with (go_at_call 18; refine (HIa.out _).mono ?_; rintro e w' ⟨rfl, rfl⟩)
      refine bodyPost_ret (v := .agg #[.int .i64 want, .int .i64 t, .int .i64 l]) (by simp [results, Try.results10, go_sem, *]) rfl ⟨rfl, below_two⟩
    · have j1 : (want == a) = false := by simpa using k1
      cases hw : src want with
      | false =>
        rw [decide_eq_false (by simp), if_neg (by simp)]
        rw [hw] at HIw
        clear hw HB
        unfold val
        simp only
        go_enter Try.func10, Try.ntmps10
        go_wp2_with (first
          | (go_at_call 18; (with_reducible refine (HIa.out _).mono ?_); rintro e w' ⟨rfl, rfl⟩)
          | (go_at_call 18; (with_reducible refine (HIw.out _).mono ?_); rintro e w' ⟨rfl, rfl⟩))
        refine bodyPost_ret (v := .agg #[.int .i64 a, .int .i64 t, .int .i64 l]) (by simp [results, Try.results10, go_sem, *]) rfl ⟨rfl, below_two⟩
      | true =>
        rw [hw] at HIw
        clear hw
        cases still with
        | false =>
          rw [decide_eq_false (by simp), if_neg (by simp)]
          unfold val
          simp only
          clear HB
          go_enter Try.func10, Try.ntmps10
          go_wp2_with (first
            | (go_at_call 18; (with_reducible refine (HIa.out _).mono ?_); rintro e w' ⟨rfl, rfl⟩)
            | (go_at_call 18; (with_reducible refine (HIw.out _).mono ?_); rintro e w' ⟨rfl, rfl⟩))
          refine bodyPost_ret (v := .agg #[.int .i64 a, .int .i64 t, .int .i64 l]) (by simp [results, Try.results10, go_sem, *]) rfl ⟨rfl, below_two⟩
        | true =>
          rw [decide_eq_true ⟨k1, rfl, rfl⟩, if_pos rfl]
          unfold bd val
          simp only
          generalize bo dead 1 200 = d at *
          go_enter Try.func10, Try.ntmps10
          go_wp2_with (first
            | (go_at_call 18; (with_reducible refine (HIa.out _).mono ?_); rintro e w' ⟨rfl, rfl⟩)
            | (go_at_call 18; (with_reducible refine (HIw.out _).mono ?_); rintro e w' ⟨rfl, rfl⟩)
            | (go_at_call 20; refine (HB.out _).mono ?_; rintro e w' ⟨rfl, rfl⟩))
          refine bodyPost_ret (v := .agg #[.int .i64 0, .int .i64 want, .int .i64 d]) (by simp [results, Try.results10, go_sem, *]) rfl ⟨rfl, below_two⟩

set_option maxHeartbeats 800000 in
theorem Power_any (f : F) (mains gen : Bool) (w : World) : Calls Try.prog 13 #[val f, .bool mains, .bool gen] w (Says w (.int .i64 (pw f.a mains gen))) := by
  obtain ⟨a, t, l⟩ := f
  unfold pw val
  simp only
  by_cases k1 : a = 1
  · rw [if_pos k1]
    subst k1
    cases mains <;>
    · simp only [if_true, Bool.false_eq_true, if_false]
      go_enter Try.func13, Try.ntmps13
      go_wp2
      go_ret
      exact ⟨rfl, below_box⟩
  · rw [if_neg k1]
    have j1 : (a == 1) = false := by simpa using k1
    by_cases k2 : a = 2
    · rw [if_pos k2]
      subst k2
      cases gen <;>
      · simp only [if_true, Bool.false_eq_true, if_false]
        go_enter Try.func13, Try.ntmps13
        go_wp2
        go_ret
        exact ⟨rfl, below_box⟩
    · rw [if_neg k2]
      have j2 : (a == 2) = false := by simpa using k2
      go_enter Try.func13, Try.ntmps13
      go_wp2
      go_ret
      exact ⟨rfl, below_box⟩

end Go.Proofs.Ytfcdfkodafikdaa.Fed
