/- Contracts of the document's own answers: Peak, Most. -/
import Derived.Test.YtkicijgempccfaaRatB
import Derived.Test.YtkicijgempccfaaRatD
namespace Go.Proofs.Ytkicijgempccfaa.Rat
open Go.RowKit Go.Proofs.Ytkicijgempccfaa.RatP
set_option linter.unusedVariables false

theorem refDraw_j {r : R} (hr : Hid r.May) {w W : World} {X : Nat} (what l d : Int) (h : Hid (J0 w W X r)) :
    Calls Try.prog 68 #[val r, .int .i64 what, .int .i64 l, .int .i64 d] W fun e W' => e = .returned (.int .i64 (dr r what l d)) ∧ Hid (J0 w W' X r) :=
  (refDraw_any r hr.out what l d W).mono fun e W' ⟨h1, h2⟩ => ⟨h1, Lib.hid (h.out.next h2)⟩
theorem Box.newRef (w : World) (r : R) : Box (w.alloc (.cells #[.int .i64 r.idle, .int .i64 r.move, .int .i64 r.gain, .int .i64 r.pull, .int .i64 r.door, .int .i64 r.weight] 52)) w.heap.size r := by
  constructor <;> simp

set_option maxHeartbeats 1600000 in
theorem refPeak_any (r : R) (hr : r.May) (l d : Int) (w : World) : Calls Try.prog 59 #[val r, .int .i64 l, .int .i64 d] w (Says w (.int .i64 (pk r l d))) := by
  have hz := pz_4 hr l d
  have HZ := Lib.hid hz
  have HR := Lib.hid hr
  have HJ : Hid (J0 w (w.alloc (.cells #[.int .i64 r.idle, .int .i64 r.move, .int .i64 r.gain, .int .i64 r.pull, .int .i64 r.door, .int .i64 r.weight] 52)) w.heap.size r) := Lib.hid ⟨says_box, Box.newRef w r⟩
  clear hz hr
  unfold val
  go_enter Try.func59, Try.ntmps59
  go_wp2
  go_loopw [7, 8] (fun n what wr => ∃ k : Nat, k ≤ 4 ∧ what = .int .i64 ((k + 1 : Nat) : Int) ∧ n = .int .i64 (pz r l d k) ∧ Holds w wr w.heap.size r) (fun _ what _ => 5 - (intOf what).toNat)
  case atStart => exact ⟨0, by omega, rfl, rfl, HJ⟩
  case round =>
    obtain ⟨k, hk, rfl, rfl, hj⟩ := hrel
    clear HJ
    have hj' : Hid (J0 w wr w.heap.size r) := hj
    clear hj
    have c0 := hj'.out.box.c0
    have c1 := hj'.out.box.c1
    have c2 := hj'.out.box.c2
    have c3 := hj'.out.box.c3
    have c4 := hj'.out.box.c4
    have c5 := hj'.out.box.c5
    by_cases hlt : k < 4
    · have hs : pz r l d (k + 1) = max (pz r l d k) (dr r ((k + 1 : Nat) : Int) l d) := rfl
      have HS := Lib.hid hs
      have HD := fun W h => refDraw_j (W := W) (w := w) (X := w.heap.size) HR ((k + 1 : Nat) : Int) l d h
      clear hs
      generalize pz r l d k = a at *
      generalize dr r ((k + 1 : Nat) : Int) l d = b at *
      have HD := Lib.hid HD
      rename_i HD0
      clear HD0
      unfold val at HD
      by_cases hab : a < b
      all_goals
        go_wp2_with (go_at_call 68; refine (HD.out _ ‹Hid (J0 _ _ _ _)›).mono ?_; clear hj'; rintro e w' ⟨rfl, hj'⟩)
        go_roundw
        case rel => exact ⟨k + 1, by omega, by go_num, by have := HS.out; congr 1; omega, hj'⟩
        case measure => simp [intOf]; omega
    · obtain rfl : k = 4 := by omega
      go_wp2
      go_ret
      exact ⟨ret_int HZ.out, hj'.out.below⟩

theorem refPeak_j {r : R} (hr : Hid r.May) {w W : World} {X : Nat} (l d : Int) (h : Hid (J0 w W X r)) :
    Calls Try.prog 59 #[val r, .int .i64 l, .int .i64 d] W fun e W' => e = .returned (.int .i64 (pk r l d)) ∧ Hid (J0 w W' X r) :=
  (refPeak_any r hr.out l d W).mono fun e W' ⟨h1, h2⟩ => ⟨h1, Lib.hid (h.out.next h2)⟩

set_option maxHeartbeats 1600000 in
theorem refMost_any (r : R) (hr : r.May) (w : World) : Calls Try.prog 34 #[val r] w (Says w (.int .i64 (most r))) := by
  have hz := most_my hr
  have HZ := Lib.hid hz
  have HR := Lib.hid hr
  have HJ : Hid (J0 w (w.alloc (.cells #[.int .i64 r.idle, .int .i64 r.move, .int .i64 r.gain, .int .i64 r.pull, .int .i64 r.door, .int .i64 r.weight] 52)) w.heap.size r) := Lib.hid ⟨says_box, Box.newRef w r⟩
  clear hz hr
  unfold val
  go_enter Try.func34, Try.ntmps34
  go_wp2
  go_loopw [3, 4] (fun n load wr => ∃ k : Nat, k ≤ 65 ∧ load = .int .i64 (k : Int) ∧ n = .int .i64 (my r k) ∧ Holds w wr w.heap.size r) (fun _ load _ => 65 - (intOf load).toNat)
  case atStart => exact ⟨0, by omega, rfl, rfl, HJ⟩
  case round =>
    obtain ⟨k, hk, rfl, rfl, hj⟩ := hrel
    clear HJ
    have hj' : Hid (J0 w wr w.heap.size r) := hj
    clear hj
    have c0 := hj'.out.box.c0
    have c1 := hj'.out.box.c1
    have c2 := hj'.out.box.c2
    have c3 := hj'.out.box.c3
    have c4 := hj'.out.box.c4
    have c5 := hj'.out.box.c5
    by_cases hlt : k < 65
    · have hs : my r (k + 1) = max (max (my r k) (pk r k 1)) (pk r k (-1)) := rfl
      have HS := Lib.hid hs
      have HD := fun W h => refPeak_j (W := W) (w := w) (X := w.heap.size) HR (k : Int) 1 h
      have HE := fun W h => refPeak_j (W := W) (w := w) (X := w.heap.size) HR (k : Int) (-1) h
      clear hs
      generalize my r k = a at *
      generalize pk r (k : Int) 1 = b at *
      generalize pk r (k : Int) (-1) = c at *
      have HD2 := Lib.hid HD
      have HE2 := Lib.hid HE
      clear HD HE
      unfold val at HD2 HE2
      rcases (show (a < b ∧ b < c) ∨ (a < b ∧ ¬ b < c) ∨ (¬ a < b ∧ a < c) ∨ (¬ a < b ∧ ¬ a < c) by omega) with ⟨hab, hac⟩ | ⟨hab, hac⟩ | ⟨hab, hac⟩ | ⟨hab, hac⟩
      all_goals
        go_wp2_with (first
          | (go_at_call 59; (with_reducible refine (HD2.out _ ‹Hid (J0 _ _ _ _)›).mono ?_); clear hj'; rintro e w' ⟨rfl, hj1⟩; have d0 := hj1.out.box.c0; have d1 := hj1.out.box.c1; have d2 := hj1.out.box.c2; have d3 := hj1.out.box.c3; have d4 := hj1.out.box.c4; have d5 := hj1.out.box.c5)
          | (go_at_call 59; (with_reducible refine (HE2.out _ ‹Hid (J0 _ _ _ _)›).mono ?_); clear hj1; rintro e w' ⟨rfl, hj'⟩))
        go_roundw
        case rel => exact ⟨k + 1, by omega, by go_num, by have := HS.out; congr 1; omega, hj'⟩
        case measure => simp [intOf]; omega
    · obtain rfl : k = 65 := by omega
      go_wp2
      go_ret
      exact ⟨ret_int HZ.out, hj'.out.below⟩

end Go.Proofs.Ytkicijgempccfaa.Rat
