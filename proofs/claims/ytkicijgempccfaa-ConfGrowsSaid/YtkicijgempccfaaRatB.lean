/- Contracts of rates.moving, Draw, Gives. -/
import Derived.Test.YtkicijgempccfaaRatA
import Derived.Deep.RegionHeld
namespace Go.Proofs.Ytkicijgempccfaa.Rat
open Go.RowKit Go.Proofs.Ytkicijgempccfaa.RatP
set_option linter.unusedVariables false

/-- six cells that hold rates, in a block X -/
structure Box (W : World) (X : Nat) (r : R) : Prop where
  c0 : W.cell? ⟨X, 0, none⟩ = some (.int .i64 r.idle)
  c1 : W.cell? ⟨X, 1, none⟩ = some (.int .i64 r.move)
  c2 : W.cell? ⟨X, 2, none⟩ = some (.int .i64 r.gain)
  c3 : W.cell? ⟨X, 3, none⟩ = some (.int .i64 r.pull)
  c4 : W.cell? ⟨X, 4, none⟩ = some (.int .i64 r.door)
  c5 : W.cell? ⟨X, 5, none⟩ = some (.int .i64 r.weight)
theorem Box.below {W W' : World} {X : Nat} {r : R} (h : Box W X r) (hb : Below W.heap.size W W') : Box W' X r := by
  have hx : X < W.heap.size := World.block_lt_of_cell? W _ h.c0
  exact ⟨(hb.cell (p := ⟨X, 0, none⟩) hx).trans h.c0, (hb.cell (p := ⟨X, 1, none⟩) hx).trans h.c1, (hb.cell (p := ⟨X, 2, none⟩) hx).trans h.c2, (hb.cell (p := ⟨X, 3, none⟩) hx).trans h.c3, (hb.cell (p := ⟨X, 4, none⟩) hx).trans h.c4, (hb.cell (p := ⟨X, 5, none⟩) hx).trans h.c5⟩
theorem Box.new (w : World) (r : R) : Box (w.alloc (.cells #[.int .i64 r.idle, .int .i64 r.move, .int .i64 r.gain, .int .i64 r.pull, .int .i64 r.door, .int .i64 r.weight] 41)) w.heap.size r := by
  constructor <;> simp
theorem Box.drew {W : World} {X : Nat} {r : R} (h : Box W X r) : Box W.drew X r := ⟨h.c0, h.c1, h.c2, h.c3, h.c4, h.c5⟩
/-- while a call works that has a box of its own -/
structure J0 (w W : World) (X : Nat) (r : R) : Prop where
  below : Below w.heap.size w W
  box : Box W X r
theorem J0.next {w W W' : World} {X : Nat} {r : R} (h : J0 w W X r) (hb : Below W.heap.size W W') : J0 w W' X r := ⟨h.below.trans (hb.mono h.below.size), h.box.below hb⟩
theorem heavy_j {r : R} (hr : Hid r.May) {w W : World} {X : Nat} (l d : Int) (h : Hid (J0 w W X r)) :
    Calls Try.prog 93 #[val r, .int .i64 l, .int .i64 d] W fun e W' => e = .returned (.int .i64 (hv r l d)) ∧ Hid (J0 w W' X r) :=
  (heavy_any r hr.out l d W).mono fun e W' ⟨h1, h2⟩ => ⟨h1, Lib.hid (h.out.next h2)⟩
def Holds (w W : World) (X : Nat) (r : R) : Prop := Hid (J0 w W X r)

set_option maxHeartbeats 1600000 in
theorem moving_any (r : R) (hr : r.May) (l d : Int) (w : World) : Calls Try.prog 84 #[val r, .int .i64 l, .int .i64 d] w (Says w (.int .i64 (mv r l d))) := by
  have hb := pl_ge hr (hv r l d)
  have hb2 := pl_le hr (hv_bds hr l d).2
  have i0 := hr.i0
  have i1 := hr.i1
  have m0 := hr.m0
  have m1 := hr.m1
  have x1 : ∀ W, (Builtin.max_ #[3, 3] 3 #[.int .i64 0, .int .i64 (hv r l d)]).run Try.prog W = .ok (.int .i64 (max 0 (hv r l d))) W := fun W => by
    rw [run_max_int2]; congr 2; split <;> omega
  have e1 : IntKind.i64.wrap (r.idle + r.move) = r.idle + r.move := IntWalk.i64_in _ (by omega)
  have e2 : IntKind.i64.wrap (r.pull * max 0 (hv r l d)) = pl r (hv r l d) := IntWalk.i64_in _ (by have : pl r (hv r l d) = r.pull * max 0 (hv r l d) := rfl; omega)
  have e3 : IntKind.i64.wrap (r.idle + r.move + pl r (hv r l d)) = mv r l d := IntWalk.i64_in _ (by omega)
  have E1 := Lib.hid e1
  have E2 := Lib.hid e2
  have E3 := Lib.hid e3
  have HR := Lib.hid hr
  have HJ : Hid (J0 w ((w.alloc (.cells #[.int .i64 r.idle, .int .i64 r.move, .int .i64 r.gain, .int .i64 r.pull, .int .i64 r.door, .int .i64 r.weight] 41)).drew) w.heap.size r) := Lib.hid ⟨((Below.refl _ _).alloc (Nat.le_refl _) _).drew, (Box.new w r).drew⟩
  clear e1 e2 e3 hb hb2 hr i0 i1 m0 m1
  generalize max 0 (hv r l d) = z at *
  unfold val
  go_enter Try.func84, Try.ntmps84
  go_wp2
  go_region_held (fun W' => W'.cell? ⟨w.heap.size, 0, none⟩ = some (.int .i64 r.idle) ∧ W'.cell? ⟨w.heap.size, 1, none⟩ = some (.int .i64 r.move) ∧ W'.cell? ⟨w.heap.size, 2, none⟩ = some (.int .i64 r.gain) ∧ W'.cell? ⟨w.heap.size, 3, none⟩ = some (.int .i64 r.pull) ∧ W'.cell? ⟨w.heap.size, 4, none⟩ = some (.int .i64 r.door) ∧ W'.cell? ⟨w.heap.size, 5, none⟩ = some (.int .i64 r.weight) ∧ Holds w W' w.heap.size r)
    ((have hj := ‹Hid (J0 _ _ _ _)›; exact ⟨hj.out.box.c0, hj.out.box.c1, hj.out.box.c2, hj.out.box.c3, hj.out.box.c4, hj.out.box.c5, hj⟩))
    ((go_at_call 93; refine (heavy_j HR _ _ ‹Hid (J0 _ _ _ _)›).mono ?_; clear HJ; rintro e w' ⟨rfl, hj'⟩))
  all_goals
    go_wp2
    go_ret
    exact ⟨ret_int (by rw [E1.out, E2.out]; exact E3.out), hj'.out.below⟩

theorem moving_j {r : R} (hr : Hid r.May) {w W : World} {X : Nat} (l d : Int) (h : Hid (J0 w W X r)) :
    Calls Try.prog 84 #[val r, .int .i64 l, .int .i64 d] W fun e W' => e = .returned (.int .i64 (mv r l d)) ∧ Hid (J0 w W' X r) :=
  (moving_any r hr.out l d W).mono fun e W' ⟨h1, h2⟩ => ⟨h1, Lib.hid (h.out.next h2)⟩

/-- the world in which a call begins that puts rates into a box -/
def boxed (w : World) (r : R) : World := w.alloc (.cells #[.int .i64 r.idle, .int .i64 r.move, .int .i64 r.gain, .int .i64 r.pull, .int .i64 r.door, .int .i64 r.weight] 41)

set_option maxHeartbeats 1600000 in
theorem draw_gain (r : R) (hr : r.May) (l d : Int) (hd : ¬ d = 0) (w : World) : Calls Try.prog 76 #[val r, .int .i64 1, .int .i64 l, .int .i64 d] w (Says w (.int .i64 (dr r 1 l d))) := by
  have e := dr_1 r l hd
  have b0 := mv_ge hr l d
  have b1 := mv_le hr l d
  have g0 := hr.g0
  have g1 := hr.g1
  have e1 : IntKind.i64.wrap (mv r l d + r.gain) = dr r 1 l d := by rw [IntWalk.i64_in _ (by omega)]; exact e.symm
  have E1 := Lib.hid e1
  have HR := Lib.hid hr
  have HJ : Hid (J0 w ((w.alloc (.cells #[.int .i64 r.idle, .int .i64 r.move, .int .i64 r.gain, .int .i64 r.pull, .int .i64 r.door, .int .i64 r.weight] 41)).drew) w.heap.size r) := Lib.hid ⟨((Below.refl _ _).alloc (Nat.le_refl _) _).drew, (Box.new w r).drew⟩
  have hd' : (d != 0) = true := by simpa using hd
  clear e1 e hr b0 b1 g0 g1 hd
  unfold val
  go_enter Try.func76, Try.ntmps76
  go_wp2
  go_region_held (fun W' => W'.cell? ⟨w.heap.size, 0, none⟩ = some (.int .i64 r.idle) ∧ W'.cell? ⟨w.heap.size, 1, none⟩ = some (.int .i64 r.move) ∧ W'.cell? ⟨w.heap.size, 2, none⟩ = some (.int .i64 r.gain) ∧ W'.cell? ⟨w.heap.size, 3, none⟩ = some (.int .i64 r.pull) ∧ W'.cell? ⟨w.heap.size, 4, none⟩ = some (.int .i64 r.door) ∧ W'.cell? ⟨w.heap.size, 5, none⟩ = some (.int .i64 r.weight) ∧ Holds w W' w.heap.size r)
    ((have hj := ‹Hid (J0 _ _ _ _)›; exact ⟨hj.out.box.c0, hj.out.box.c1, hj.out.box.c2, hj.out.box.c3, hj.out.box.c4, hj.out.box.c5, hj⟩))
    ((go_at_call 84; refine (moving_j HR _ _ ‹Hid (J0 _ _ _ _)›).mono ?_; clear HJ; rintro e w' ⟨rfl, hj'⟩))
  all_goals
    go_wp2
    go_ret
    exact ⟨ret_int (by rw [← E1.out]), hj'.out.below⟩

set_option maxHeartbeats 1600000 in
theorem Draw_any (r : R) (hr : r.May) (what l d : Int) (w : World) : Calls Try.prog 76 #[val r, .int .i64 what, .int .i64 l, .int .i64 d] w (Says w (.int .i64 (dr r what l d))) := by
  by_cases h4 : what = 4
  · subst h4
    have E := Lib.hid (dr_4 r l d)
    unfold val
    go_enter Try.func76, Try.ntmps76
    go_wp2
    go_ret
    exact ⟨by rw [E.out]; rfl, (Below.refl _ _).alloc (Nat.le_refl _) _⟩
  by_cases hd : d = 0
  · subst hd
    have E := Lib.hid (dr_still r l h4)
    have t4 : (what == 4) = false := by simpa using h4
    unfold val
    by_cases h1 : what = 1
    · subst h1
      go_enter Try.func76, Try.ntmps76
      go_wp2
      go_ret
      exact ⟨by rw [E.out]; rfl, (Below.refl _ _).alloc (Nat.le_refl _) _⟩
    by_cases h2 : what = 2
    · subst h2
      go_enter Try.func76, Try.ntmps76
      go_wp2
      go_ret
      exact ⟨by rw [E.out]; rfl, (Below.refl _ _).alloc (Nat.le_refl _) _⟩
    by_cases h3 : what = 3
    · subst h3
      go_enter Try.func76, Try.ntmps76
      go_wp2
      go_ret
      exact ⟨by rw [E.out]; rfl, (Below.refl _ _).alloc (Nat.le_refl _) _⟩
    have t1 : (what == 1) = false := by simpa using h1
    have t2 : (what == 2) = false := by simpa using h2
    have t3 : (what == 3) = false := by simpa using h3
    clear h1 h2 h3 h4
    go_enter Try.func76, Try.ntmps76
    go_wp2
    go_ret
    exact ⟨by rw [E.out]; rfl, (Below.refl _ _).alloc (Nat.le_refl _) _⟩
  by_cases h1 : what = 1
  · subst h1; exact draw_gain r hr l d hd w
  have t4 : (what == 4) = false := by simpa using h4
  have td : (d != 0) = true := by simpa using hd
  by_cases h2 : what = 2
  · subst h2
    have E := Lib.hid (dr_2 r l hd)
    have HM := Lib.hid (fun W => moving_any r hr l d W)
    clear hd
    unfold val at HM ⊢
    go_enter Try.func76, Try.ntmps76
    go_wp2_with (go_at_call 84; refine (HM.out _).mono ?_; rintro e w' ⟨rfl, hb⟩)
    go_ret
    exact ⟨by rw [E.out]; rfl, ((Below.refl _ _).alloc (Nat.le_refl _) _).trans (hb.mono (by simp))⟩
  by_cases h3 : what = 3
  · subst h3
    have E := Lib.hid (dr_3 r l hd)
    have HM := Lib.hid (fun W => moving_any r hr l d W)
    clear hd
    unfold val at HM ⊢
    go_enter Try.func76, Try.ntmps76
    go_wp2_with (go_at_call 84; refine (HM.out _).mono ?_; rintro e w' ⟨rfl, hb⟩)
    go_ret
    exact ⟨by rw [E.out]; rfl, ((Below.refl _ _).alloc (Nat.le_refl _) _).trans (hb.mono (by simp))⟩
  have E := Lib.hid (dr_else r l d h4 h1 h2 h3)
  have t1 : (what == 1) = false := by simpa using h1
  have t2 : (what == 2) = false := by simpa using h2
  have t3 : (what == 3) = false := by simpa using h3
  clear h1 h2 h3 h4 hd
  unfold val
  go_enter Try.func76, Try.ntmps76
  go_wp2
  go_ret
  exact ⟨by rw [E.out]; rfl, (Below.refl _ _).alloc (Nat.le_refl _) _⟩

end Go.Proofs.Ytkicijgempccfaa.Rat
