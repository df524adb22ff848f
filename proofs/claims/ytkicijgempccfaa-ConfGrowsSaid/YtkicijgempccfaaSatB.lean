/- Contracts of sat.product and of the three closures that work. -/
import Derived.Test.YtkicijgempccfaaSatA
import Derived.IntWalk
import Derived.Deep.RegionWith
namespace Go.Proofs.Ytkicijgempccfaa.Sat
open Go.RowKit Go.Proofs.Ytkicijgempccfaa.SatP
set_option linter.unusedVariables false

theorem ret_int {k : IntKind} {a b : Int} (h : a = b) : Ending.returned (.int k a) = .returned (.int k b) := by rw [h]

theorem product_any (a b : Int) (w : World) (ha1 : -1099511627776 ≤ a) (ha2 : a ≤ 1099511627776) (hb1 : -1099511627776 ≤ b) (hb2 : b ≤ 1099511627776) :
    Calls Try.prog 70 #[.int .i64 a, .int .i64 b] w fun e w' => e = .returned (.int .i64 (prodV a b)) ∧ w = w' := by
  by_cases h0 : a = 0
  · subst h0
    go_enter Try.func70, Try.ntmps70
    go_wp2
    go_ret
    exact ⟨by simp [prodV], rfl⟩
  · have hpa := dist_pos a h0
    have hla := dist_le a ha1 ha2
    have hna := dist_nonneg b
    have hlb := dist_le b hb1 hb2
    have e0 : (a == 0) = false := by simpa using h0
    have hq0 : 0 ≤ 1099511627776 / dist a := Int.ediv_nonneg (by omega) (by omega)
    have hq1 : 1099511627776 / dist a ≤ 1099511627776 := Int.ediv_le_self _ (by omega)
    by_cases hd : dist b ≤ 1099511627776 / dist a
    · have hm := mul_bd a b ha1 ha2 (.inr hd)
      have hp : a * b = prodV a b := by unfold prodV; rw [if_neg (by omega), if_neg (by omega)]
      have HP := Lib.hid hp
      have hw : IntKind.i64.wrap (a * b) = a * b := IntWalk.i64_in _ (by omega)
      have HW := Lib.hid hw
      clear hp hw
      go_enter Try.func70, Try.ntmps70
      go_wp2_with (go_at_call 79; refine (distance_any _ _ (by omega) (by omega)).mono ?_; rintro e w' ⟨rfl, rfl⟩)
      go_ret
      refine ⟨?_, rfl⟩
      exact ret_int (by first | exact HP.out | (rw [show wrap64 (a * b) = a * b from HW.out]; exact HP.out))
    · have hf := mul_far a b h0 hd
      have key : (a < 0 ∧ b < 0 ∧ prodV a b = 1099511627777) ∨ (a < 0 ∧ 0 ≤ b ∧ prodV a b = -1099511627777) ∨ (0 ≤ a ∧ b < 0 ∧ prodV a b = -1099511627777) ∨ (0 ≤ a ∧ 0 ≤ b ∧ prodV a b = 1099511627777) := by
        unfold prodV
        rcases hf with ⟨h1, h2⟩ | ⟨h1, h2⟩
        · rw [if_pos h1]; omega
        · rw [if_neg (by omega), if_pos h1]; omega
      clear hf
      rcases key with ⟨h1, h2, h3⟩ | ⟨h1, h2, h3⟩ | ⟨h1, h2, h3⟩ | ⟨h1, h2, h3⟩
      case' inl => have da : decide (a < 0) = true := by simpa using h1
      case' inl => have db : decide (b < 0) = true := by simpa using h2
      case' inr.inl => have da : decide (a < 0) = true := by simpa using h1
      case' inr.inl => have db : decide (b < 0) = false := by simpa using h2
      case' inr.inr.inl => have da : decide (a < 0) = false := by simpa using h1
      case' inr.inr.inl => have db : decide (b < 0) = true := by simpa using h2
      case' inr.inr.inr => have da : decide (a < 0) = false := by simpa using h1
      case' inr.inr.inr => have db : decide (b < 0) = false := by simpa using h2
      all_goals
        have H3 := Lib.hid h3
        clear h3
        go_enter Try.func70, Try.ntmps70
        go_wp2_with (go_at_call 79; refine (distance_any _ _ (by omega) (by omega)).mono ?_; rintro e w' ⟨rfl, rfl⟩)
        go_ret
        exact ⟨by rw [H3.out]; rfl, rfl⟩

/-- what Add's closure does: a number, and the cell that tells whether a bound was met -/
def WorkPost (w : World) (g : Nat) (m : Bool) (x : Int) (b : Bool) (e : Ending) (w' : World) : Prop :=
  e = .returned (.int .i64 x) ∧ Met w' g (m || b) ∧ w.grownBy w' (some g)

theorem Met.set {w : World} {g : Nat} {m : Bool} (h : Met w g m) (b : Bool) : Met (w.setCell ⟨g, 0, none⟩ (.bool b)) g b := one_setCell h
theorem grown_set {a w : World} {g : Nat} (h : a.grownBy w (some g)) (u : Value) : a.grownBy (w.setCell ⟨g, 0, none⟩ u) (some g) :=
  ⟨h.os, h.tape, h.output, by simpa [World.setCell] using h.size, fun i hi hne => (Below.heap_setCell w _ u i (by rintro rfl; exact hne rfl)).trans (h.block i hi hne)⟩

theorem met_as {w : World} {g : Nat} {m n : Bool} (h : Met w g m) (e : m = n) : Met w g n := e ▸ h

/-- while a closure works: the cell of 'met', two captured numbers -/
structure J (w0 w : World) (g : Nat) (m : Bool) (ga gb : Nat) (a b : Int) : Prop where
  met : Met w g m
  ca : w.cell? ⟨ga, 0, none⟩ = some (.int .i64 a)
  cb : w.cell? ⟨gb, 0, none⟩ = some (.int .i64 b)
  grown : w0.grownBy w (some g)
  na : ga ≠ g
  nb : gb ≠ g

theorem bounded_j {w0 w : World} {g : Nat} {m : Bool} {ga gb : Nat} {a b : Int} (n : Int) (h : Hid (J w0 w g m ga gb a b)) :
    Calls Try.prog 71 #[.int .i64 n, .pointer (some ⟨g, 0, none⟩)] w fun e w' => e = .returned (.int .i64 (bnd n)) ∧ Hid (J w0 w' g (m || metB n) ga gb a b) := by
  obtain ⟨h1, h2, h3, h4, h5, h6⟩ := h.out
  refine (bounded_any n g m w h1).mono ?_
  rintro e w' ⟨rfl, rfl⟩
  refine ⟨rfl, Lib.hid ⟨h1.set _, ?_, ?_, grown_set h4 _, h5, h6⟩⟩
  · rw [World.cell?_setCell_other _ _ _ _ (by intro e; injection e with e; exact h5 e.symm)]; exact h2
  · rw [World.cell?_setCell_other _ _ _ _ (by intro e; injection e with e; exact h6 e.symm)]; exact h3

set_option maxHeartbeats 1600000 in
theorem add1_any (a b : Int) (ga gb g : Nat) (m : Bool) (w : World) (hg : Met w g m) (ha : w.cell? ⟨ga, 0, none⟩ = some (.int .i64 a)) (hb : w.cell? ⟨gb, 0, none⟩ = some (.int .i64 b)) (na : ga ≠ g) (nb : gb ≠ g) :
    Calls Try.prog 62 #[.func (.func 71) #[] #[.pointer (some ⟨g, 0, none⟩)], .pointer (some ⟨ga, 0, none⟩), .pointer (some ⟨gb, 0, none⟩)] w (WorkPost w g m (addV a b) (addM a b)) := by
  have h1 := bnd_ge a
  have h2 := bnd_le a
  have h3 := bnd_ge b
  have h4 := bnd_le b
  have HJ : Hid (J w w.drew g m ga gb a b) := Lib.hid ⟨hg, ha, hb, ⟨rfl, rfl, rfl, Nat.le_refl _, fun _ _ _ => rfl⟩, na, nb⟩
  have HW : Hid (IntKind.i64.wrap (bnd a + bnd b) = bnd a + bnd b) := Lib.hid (IntWalk.i64_in _ (by omega))
  clear hg na nb
  go_enter Try.func62, Try.ntmps62
  go_wp2
  go_region_with (go_at_call 71; refine (bounded_j _ ‹Hid (J _ _ _ _ _ _ _ _)›).mono ?_; rintro e w' ⟨rfl, hj⟩; have ca := hj.out.ca; have cb := hj.out.cb)
  all_goals
    go_wp2
    go_ret
    have hj := ‹Hid (J _ _ _ _ _ _ _ _)›.out
    exact ⟨ret_int (by rw [HW.out]; rfl), met_as hj.met (by rw [HW.out]; unfold addM; cases m <;> cases metB a <;> cases metB b <;> rfl), hj.grown⟩

end Go.Proofs.Ytkicijgempccfaa.Sat
