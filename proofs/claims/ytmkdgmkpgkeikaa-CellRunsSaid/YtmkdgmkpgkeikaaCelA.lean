/- Contracts of cell's functions, of layer 9's reference, awake. -/
import Derived.Test.YtmkdgmkpgkeikaaHeld
import Derived.Test.YtmkdgmkpgkeikaaCelP
import Derived.Test.YtmkdgmkpgkeikaaSatE1
namespace Go.Proofs.Ytmkdgmkpgkeikaa.Cel
open Go.RowKit Go.Proofs.Ytmkdgmkpgkeikaa.CelP Go.Proofs.Ytmkdgmkpgkeikaa.SatP Go.Proofs.Ytmkdgmkpgkeikaa.Box Go.Proofs.Ytmkdgmkpgkeikaa.Held
set_option linter.unusedVariables false

/-- a battery as a value, as cells -/
def val (c : K) : Value := .agg #[.int .i64 c.h, .int .i64 c.f]
def arr (c : K) : Array Value := #[.int .i64 c.h, .int .i64 c.f]

theorem amount_any (n : Int) (w : World) : Calls Try.prog 15 #[.int .i64 n] w (Says w (.int .i64 (am n))) := by
  have m1 : ∀ W, (Builtin.max_ #[3, 3] 3 #[.int .i64 0, .int .i64 n]).run Try.prog W = .ok (.int .i64 (am n)) W := fun W => by
    rw [run_max_int2]; congr 2; unfold am; split <;> split <;> omega
  generalize am n = x at *
  go_enter Try.func15, Try.ntmps15
  go_wp2
  go_ret
  exact ⟨rfl, Below.refl _ _⟩

theorem Can_any (c : K) (n : Int) (w : World) : Calls Try.prog 12 #[val c, .int .i64 n] w (Says w (.bool (decide (am n ≤ c.h)))) := by
  obtain ⟨h, f⟩ := c
  have HA : Hid (∀ W, Calls Try.prog 15 #[.int .i64 n] W (Says W (.int .i64 (am n)))) := Lib.hid fun W => amount_any n W
  generalize am n = x at *
  unfold val
  simp only
  have hj : Hid (JS w _ _) := Lib.hid (J.one w #[.int .i64 h, .int .i64 f] 25)
  go_enter Try.func12, Try.ntmps12
  go_wp2
  refine wp_region_all _ JS.closed hj.out (by kernel_rfl) (by kernel_rfl) ?_
  apply Exists.intro
  refine ⟨fun w1 h1 => ?_, fun W1 hJ1 hb1 => ?_⟩
  · haveI := Ext.some h1
    obtain ⟨q0, q1⟩ := ext2 h1 0 rfl
    have cA := Lib.hid (Ext.calls h1 JS.closed (fun W _ => HA.out W))
    repeat go_big_quiet_step (first | (go_at_call 15; with_reducible exact cA.out _))
    exact wpQuiet_nil rfl
  · go_wp2
    go_ret
    exact ⟨rfl, J.below hJ1⟩

theorem spend1_any (h n : Int) (g : Nat) (w : World) (h0 : 0 ≤ h) (h1 : h ≤ 1048576) (hn : am n ≤ h) (hg : w.cell? ⟨g, 0, none⟩ = some (.int .i64 n)) :
    Calls Try.prog 14 #[.int .i64 h, .pointer (some ⟨g, 0, none⟩)] w (Says w (.int .i64 (h - am n))) := by
  have HA : Hid (∀ W, Calls Try.prog 15 #[.int .i64 n] W (Says W (.int .i64 (am n)))) := Lib.hid fun W => amount_any n W
  have ha := am0 n
  have e1 : IntKind.i64.wrap (h - am n) = h - am n := IntWalk.i64_in _ (by omega)
  clear ha hn
  generalize am n = x at *
  go_enter Try.func14, Try.ntmps14
  go_wp2_with (go_at_call 15; refine (HA.out _).mono ?_; rintro e w1 ⟨rfl, k1⟩)
  go_ret
  exact ⟨rfl, k1⟩

theorem fill1_any (c : K) (n : Int) (g X : Nat) (w : World) (hm : c.May) (hg : w.cell? ⟨g, 0, none⟩ = some (.int .i64 n)) (hX : w.cell? ⟨X, 1, none⟩ = some (.int .i64 c.f)) (hlt : X < w.heap.size) :
    Calls Try.prog 16 #[.int .i64 c.h, .pointer (some ⟨g, 0, none⟩), .pointer (some ⟨X, 0, none⟩)] w (Says w (.int .i64 (fi c.h c.f n))) := by
  have HA : Hid (∀ W, Calls Try.prog 15 #[.int .i64 n] W (Says W (.int .i64 (am n)))) := Lib.hid fun W => amount_any n W
  have hf := fi_add hm n
  obtain ⟨h, f⟩ := c
  simp only at hX hf ⊢
  have HS : Hid (∀ W, Calls Try.prog 17 #[.int .i64 h, .int .i64 (am n)] W (Sat.Pair W (addV h (am n)) (addM h (am n)))) := Lib.hid fun W => Sat.Add_any h (am n) W
  have HM : ∀ W, (Builtin.min_ #[2, 2] 2 #[.int .i64 (addV h (am n)), .int .i64 f]).run Try.prog W = .ok (.int .i64 (fi h f n)) W := fun W => by
    rw [run_min_int2]; congr 2; rw [← hf]; split <;> omega
  clear hf
  generalize addV h (am n) = y at *
  generalize addM h (am n) = b at *
  generalize am n = x at *
  generalize fi h f n = z at *
  go_enter Try.func16, Try.ntmps16
  go_wp2_with (first
    | (go_at_call 15; refine (HA.out _).mono ?_; rintro e w1 ⟨rfl, k1⟩)
    | (go_at_call 17; refine (HS.out _).mono ?_; rintro e w2 ⟨rfl, k2⟩; have hb := below_more k1 k2 (Nat.le_refl _); have hX2 := (hb.cell (p := ⟨X, 1, none⟩) hlt).trans hX))
  go_ret
  exact ⟨rfl, hb⟩

end Go.Proofs.Ytmkdgmkpgkeikaa.Cel
