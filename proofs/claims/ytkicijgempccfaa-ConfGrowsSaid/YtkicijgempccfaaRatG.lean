/- Contracts of rates.upTo, Check. -/
import Derived.Test.YtkicijgempccfaaRatD
namespace Go.Proofs.Ytkicijgempccfaa.Rat
open Go.RowKit Go.Proofs.Ytkicijgempccfaa.RatP
set_option linter.unusedVariables false

/-- is a number from 0 to the most? -/
def inB (m n : Int) : Bool := decide (0 ≤ n) && decide (n ≤ m)
theorem inB_yes {m n : Int} (h0 : 0 ≤ n) (h1 : n ≤ m) : inB m n = true := by simp [inB, h0, h1]
theorem inB_iff {m n : Int} : inB m n = true ↔ 0 ≤ n ∧ n ≤ m := by simp [inB]
theorem upTo_any (m n : Int) (w : World) : Calls Try.prog 63 #[.int .i64 m, .int .i64 n] w fun e w' => e = .returned (.bool (inB m n)) ∧ w = w' := by
  by_cases h0 : 0 ≤ n
  · by_cases h1 : n ≤ m
    · have E := Lib.hid (inB_yes h0 h1)
      go_enter Try.func63, Try.ntmps63
      go_wp2
      go_ret
      exact ⟨by rw [E.out]; rfl, rfl⟩
    · have e : inB m n = false := by simp [inB, h1]
      have h2 : m < n := by omega
      have E := Lib.hid e
      clear e
      have d1 : decide (n ≤ m) = false := by simpa using h1
      clear h1
      go_enter Try.func63, Try.ntmps63
      go_wp2
      go_ret
      exact ⟨by rw [E.out]; rfl, rfl⟩
  · have e : inB m n = false := by simp [inB, h0]
    have E := Lib.hid e
    clear e
    have d1 : decide (0 ≤ n) = false := by simpa using h0
    clear h0
    go_enter Try.func63, Try.ntmps63
    go_wp2
    go_ret
    exact ⟨by rw [E.out]; rfl, rfl⟩

/-- may rates be? -/
def mayB (r : R) : Bool := inB 1000 r.idle && (inB 1000 r.move && (inB 1000 r.gain && (inB 100 r.pull && (inB 1000 r.door && inB 64 r.weight))))
theorem mayB_iff (r : R) : mayB r = true ↔ r.May := by
  unfold mayB
  simp only [Bool.and_eq_true, inB_iff]
  exact ⟨fun ⟨⟨a, b⟩, ⟨c, d⟩, ⟨e, f⟩, ⟨g, h⟩, ⟨i, j⟩, k, l⟩ => ⟨a, b, c, d, e, f, g, h, i, j, k, l⟩, fun h => ⟨⟨h.i0, h.i1⟩, ⟨h.m0, h.m1⟩, ⟨h.g0, h.g1⟩, ⟨h.p0, h.p1⟩, ⟨h.d0, h.d1⟩, h.w0, h.w1⟩⟩

set_option maxHeartbeats 1600000 in
theorem Check_any (r : R) (w : World) : Calls Try.prog 56 #[val r] w (Says w (.bool (mayB r))) := by
  have h0 := Lib.hid (fun W => upTo_any 1000 r.idle W)
  have h1 := Lib.hid (fun W => upTo_any 1000 r.move W)
  have h2 := Lib.hid (fun W => upTo_any 1000 r.gain W)
  have h3 := Lib.hid (fun W => upTo_any 100 r.pull W)
  have h4 := Lib.hid (fun W => upTo_any 1000 r.door W)
  have h5 := Lib.hid (fun W => upTo_any 64 r.weight W)
  have hm : mayB r = (inB 1000 r.idle && (inB 1000 r.move && (inB 1000 r.gain && (inB 100 r.pull && (inB 1000 r.door && inB 64 r.weight))))) := rfl
  rw [hm]
  clear hm
  generalize inB 1000 r.idle = b0 at *
  generalize inB 1000 r.move = b1 at *
  generalize inB 1000 r.gain = b2 at *
  generalize inB 100 r.pull = b3 at *
  generalize inB 1000 r.door = b4 at *
  generalize inB 64 r.weight = b5 at *
  unfold val
  rcases (show b0 = false ∨ (b0 = true ∧ b1 = false) ∨ (b0 = true ∧ b1 = true ∧ b2 = false) ∨ (b0 = true ∧ b1 = true ∧ b2 = true ∧ b3 = false) ∨ (b0 = true ∧ b1 = true ∧ b2 = true ∧ b3 = true ∧ b4 = false) ∨ (b0 = true ∧ b1 = true ∧ b2 = true ∧ b3 = true ∧ b4 = true) by
    cases b0 <;> cases b1 <;> cases b2 <;> cases b3 <;> cases b4 <;> simp) with rfl | ⟨rfl, rfl⟩ | ⟨rfl, rfl, rfl⟩ | ⟨rfl, rfl, rfl, rfl⟩ | ⟨rfl, rfl, rfl, rfl, rfl⟩ | ⟨rfl, rfl, rfl, rfl, rfl⟩
  all_goals
    go_enter Try.func56, Try.ntmps56
    go_wp2_with (first
      | (go_at_call 63; (with_reducible refine (h0.out _).mono ?_); rintro e w' ⟨rfl, rfl⟩)
      | (go_at_call 63; (with_reducible refine (h1.out _).mono ?_); rintro e w' ⟨rfl, rfl⟩)
      | (go_at_call 63; (with_reducible refine (h2.out _).mono ?_); rintro e w' ⟨rfl, rfl⟩)
      | (go_at_call 63; (with_reducible refine (h3.out _).mono ?_); rintro e w' ⟨rfl, rfl⟩)
      | (go_at_call 63; (with_reducible refine (h4.out _).mono ?_); rintro e w' ⟨rfl, rfl⟩)
      | (go_at_call 63; (with_reducible refine (h5.out _).mono ?_); rintro e w' ⟨rfl, rfl⟩))
    go_ret
    exact ⟨by simp, says_box⟩

end Go.Proofs.Ytkicijgempccfaa.Rat
