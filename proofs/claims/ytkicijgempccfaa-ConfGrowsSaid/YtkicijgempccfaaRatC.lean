/- The contract of rates.peak. -/
import Derived.Test.YtkicijgempccfaaRatB
namespace Go.Proofs.Ytkicijgempccfaa.Rat
open Go.RowKit Go.Proofs.Ytkicijgempccfaa.RatP
set_option linter.unusedVariables false

theorem draw_j {r : R} (hr : Hid r.May) {w W : World} {X : Nat} (what l d : Int) (h : Hid (J0 w W X r)) :
    Calls Try.prog 76 #[val r, .int .i64 what, .int .i64 l, .int .i64 d] W fun e W' => e = .returned (.int .i64 (dr r what l d)) ∧ Hid (J0 w W' X r) :=
  (Draw_any r hr.out what l d W).mono fun e W' ⟨h1, h2⟩ => ⟨h1, Lib.hid (h.out.next h2)⟩

theorem run_max4 {P : Program} (ts : Array TypeId) (t : TypeId) (a b c d : Int) (w : World) : (Builtin.max_ ts t #[.int .i64 a, .int .i64 b, .int .i64 c, .int .i64 d]).run P w = .ok (.int .i64 (max (max (max a b) c) d)) w := by
  simp [Builtin.max_, Builtin.max2]
  repeat' split
  all_goals omega

set_option maxHeartbeats 8000000 in
theorem peakOf_any (r : R) (hr : r.May) (l d : Int) (w : World) : Calls Try.prog 66 #[val r, .int .i64 l, .int .i64 d] w (Says w (.int .i64 (pk r l d))) := by
  have x1 : ∀ W, (Builtin.max_ #[3, 3, 3, 3] 3 #[.int .i64 (dr r 1 l d), .int .i64 (dr r 2 l d), .int .i64 (dr r 3 l d), .int .i64 (dr r 4 l d)]).run Try.prog W = .ok (.int .i64 (pk r l d)) W := fun W => run_max4 _ _ _ _ _ _ W
  have HR := Lib.hid hr
  have HJ : Hid (J0 w ((w.alloc (.cells #[.int .i64 r.idle, .int .i64 r.move, .int .i64 r.gain, .int .i64 r.pull, .int .i64 r.door, .int .i64 r.weight] 41)).drew) w.heap.size r) := Lib.hid ⟨((Below.refl _ _).alloc (Nat.le_refl _) _).drew, (Box.new w r).drew⟩
  clear hr
  unfold val
  go_enter Try.func66, Try.ntmps66
  go_wp2
  go_region_held (fun W' => W'.cell? ⟨w.heap.size, 0, none⟩ = some (.int .i64 r.idle) ∧ W'.cell? ⟨w.heap.size, 1, none⟩ = some (.int .i64 r.move) ∧ W'.cell? ⟨w.heap.size, 2, none⟩ = some (.int .i64 r.gain) ∧ W'.cell? ⟨w.heap.size, 3, none⟩ = some (.int .i64 r.pull) ∧ W'.cell? ⟨w.heap.size, 4, none⟩ = some (.int .i64 r.door) ∧ W'.cell? ⟨w.heap.size, 5, none⟩ = some (.int .i64 r.weight) ∧ Holds w W' w.heap.size r)
    ((have hj := ‹Hid (J0 _ _ _ _)›; exact ⟨hj.out.box.c0, hj.out.box.c1, hj.out.box.c2, hj.out.box.c3, hj.out.box.c4, hj.out.box.c5, hj⟩))
    ((go_at_call 76; have hj0 := ‹Hid (J0 _ _ _ _)›; refine (draw_j HR _ _ _ hj0).mono ?_; clear hj0; rintro e w' ⟨rfl, hj'⟩))
  all_goals
    go_wp2
    go_ret
    have hj := ‹Hid (J0 _ _ _ _)›
    exact ⟨rfl, hj.out.below⟩

theorem peakOf_j {r : R} (hr : Hid r.May) {w W : World} {X : Nat} (l d : Int) (h : Hid (J0 w W X r)) :
    Calls Try.prog 66 #[val r, .int .i64 l, .int .i64 d] W fun e W' => e = .returned (.int .i64 (pk r l d)) ∧ Hid (J0 w W' X r) :=
  (peakOf_any r hr.out l d W).mono fun e W' ⟨h1, h2⟩ => ⟨h1, Lib.hid (h.out.next h2)⟩

end Go.Proofs.Ytkicijgempccfaa.Rat
