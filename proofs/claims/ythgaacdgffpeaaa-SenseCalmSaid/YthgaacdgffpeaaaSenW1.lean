/- The walk of SenseCalm. -/
import Derived.Test.YthgaacdgffpeaaaSenB
import Derived.OpenShut
import Derived.LoopN
import Derived.Laws.StructEq
namespace Go.Proofs.Ythgaacdgffpeaaa.Walk
open Go.RowKit Go.ChangeShapes Go.Proofs.Ythgaacdgffpeaaa.SenP Go.Proofs.Ythgaacdgffpeaaa.Sen Go.Proofs.Ythgaacdgffpeaaa.Box Go.Proofs.Ythgaacdgffpeaaa.Held Go.Proofs.Ythgaacdgffpeaaa.Sees Go.Proofs.Ythgaacdgffpeaaa.Open
set_option linter.unusedVariables false

set_option maxRecDepth 100000 in
set_option maxHeartbeats 6400000 in
theorem senseCalm_walk (w : World) (g : Bool) (mo many : Int) (w1 : (Lit.int .u8 mo).wf = true) (w2 : (Lit.int .u16 many).wf = true) :
    Calls Try.prog 6 #[.bool g, .int .u8 mo, .int .u16 many] w fun e w' => e = .returned (.bool true) ∧ Below w.heap.size w w' := by
  have hmo := bounds_u8 w1
  have hmy := bounds_u16 w2
  clear w1 w2
  have HA : Hid (∀ W, Calls Try.prog 7 #[] W (Says W (.bool true))) := Lib.hid fun W => awake_any W
  obtain ⟨n, hn⟩ : ∃ n, mo % 200 = n := ⟨_, rfl⟩
  have t1 : mo.tmod 200 = n := by rw [Int.tmod_eq_emod_of_nonneg (by omega)]; exact hn
  have t2 : IntKind.u8.wrap n = n := IntWalk.u8_in _ (by omega)
  have t3 : IntKind.i64.wrap n = n := IntWalk.i64_in _ (by omega)
  obtain ⟨m, hm⟩ : ∃ m, n + 1 = m := ⟨_, rfl⟩
  have t4 : IntKind.i64.wrap (n + 1) = m := by rw [hm]; exact IntWalk.i64_in _ (by omega)
  have t5 : IntKind.i64.wrap many = many := IntWalk.i64_in _ (by omega)
  have m0 : ¬ m = 0 := by omega
  obtain ⟨c, hc⟩ : ∃ c, many % m = c := ⟨_, rfl⟩
  have c0 : 0 ≤ c := by rw [← hc]; exact Int.emod_nonneg _ m0
  have c1 : c < m := by rw [← hc]; exact Int.emod_lt_of_pos _ (by omega)
  have t6 : many.tmod m = c := by rw [Int.tmod_eq_emod_of_nonneg (by omega)]; exact hc
  have t7 : IntKind.i64.wrap c = c := IntWalk.i64_in _ (by omega)
  obtain ⟨N, hN⟩ : ∃ N : Nat, many % 300 = N := ⟨(many % 300).toNat, by omega⟩
  have t8 : many.tmod 300 = (N : Int) := by rw [Int.tmod_eq_emod_of_nonneg (by omega)]; exact hN
  have t9 : IntKind.u16.wrap (N : Int) = (N : Int) := IntWalk.u16_in _ (by omega)
  have t10 : IntKind.i64.wrap (N : Int) = (N : Int) := IntWalk.i64_in _ (by omega)
  have HB := Lib.hid (⟨by omega, by omega⟩ : 1 ≤ m ∧ m ≤ 200)
  have HN := Lib.hid (by omega : N ≤ 300)
  have HS : Hid (∀ x, 0 ≤ x → x < m → ∀ W, Calls Try.prog 8 #[.agg #[.bool g, .int .i64 x], .bool g, .int .i64 m] W (Says W (.tuple #[.agg #[.bool g, .int .i64 0], .bool false]))) := Lib.hid fun x h0 h1 W => by
    have := step_as g x g m (by omega) (by have := HB.out; omega) W
    simpa [st, tn, val] using this
  have HC : Hid (0 ≤ c ∧ c < m) := Lib.hid ⟨c0, c1⟩
  have kg : (g == g) = true := by simp
  clear hn hm hc hN hmo hmy c0 c1
  go_enter Try.func6, Try.ntmps6
  go_wp2_with (go_at_call 7; refine (HA.out _).mono ?_; rintro e w1 ⟨rfl, h1⟩)
  have hj0 := Lib.hid (((J.start w).next h1).push #[.bool g, .int .i64 c] 25)
  have hX : w.heap.size ≤ w1.heap.size := h1.size
  go_loopw [10] (fun a wr => ∃ (i : Nat) (x : Int), a = .int .i64 i ∧ i ≤ N ∧ Hid (0 ≤ x ∧ x < m) ∧ Hid (J w wr [(w1.heap.size, #[.bool g, .int .i64 x])])) (fun a _ => N - (intOf a).toNat)
  case atStart => exact ⟨0, c, rfl, Nat.zero_le _, HC, hj0⟩
  case round =>
    clear hj0
    obtain ⟨i, x, rfl, hi, hx, hj⟩ := hrel
    obtain ⟨a0, a1⟩ := (hj.out.bx 0 rfl).c2
    by_cases hlt : i < N
    · have i1 : (i : Int) < (N : Int) := by omega
      have e3 : IntKind.i64.wrap ((i : Int) + 1) = ((i + 1 : Nat) : Int) := by have := HN.out; rw [IntWalk.i64_in _ (by omega)]; rfl
      have HS1 := Lib.hid (HS.out x hx.out.1 hx.out.2)
      go_wp2_with (first
        | (go_at_call 8; (with_reducible refine (HS1.out _).mono ?_); clear HS1 a0 a1; rintro e w2 ⟨rfl, h2⟩; have hlt1 := (hj.out.bx 0 rfl).lt; have hne1 : w2.heap.size ≠ w1.heap.size := (by have := h2.size; omega); have hne2 := hne1.symm; have hj2 := Lib.hid ((hj.out.next h2).push #[.bool g, .int .i64 0] 25); clear h2 hlt1; obtain ⟨a0, a1⟩ := (hj2.out.bx 1 rfl).c2; obtain ⟨f0, f1⟩ := (hj2.out.bx 1 rfl).f2; obtain ⟨b0, b1⟩ := (hj2.out.bx 0 rfl).c2))
      have hj3 := Lib.hid (jlay2 (x := .bool g) (y := .int .i64 0) (jlast2 hj2.out) hX (fun x hx => by cases hx))
      obtain ⟨c0, c1⟩ := (hj3.out.bx 0 rfl).c2
      go_wp2
      go_roundw
      case rel => exact ⟨i + 1, 0, rfl, by omega, Lib.hid ⟨by decide, by have := HB.out; omega⟩, hj3⟩
      case measure => simp [intOf]; omega
    · obtain rfl : i = N := by omega
      go_wp2
      go_ret
      exact ⟨rfl, hj.out.below⟩

end Go.Proofs.Ythgaacdgffpeaaa.Walk
