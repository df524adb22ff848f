/- The walk of GateStays. -/
import Derived.Test.YtaknnkmdfimcbaaGatB
import Derived.OpenShut
import Derived.LoopN
namespace Go.Proofs.Ytaknnkmdfimcbaa.Walk
open Go.RowKit Go.ChangeShapes Go.Proofs.Ytaknnkmdfimcbaa.CarP Go.Proofs.Ytaknnkmdfimcbaa.LefP Go.Proofs.Ytaknnkmdfimcbaa.LokP Go.Proofs.Ytaknnkmdfimcbaa.GatP Go.Proofs.Ytaknnkmdfimcbaa.Gat Go.Proofs.Ytaknnkmdfimcbaa.Box Go.Proofs.Ytaknnkmdfimcbaa.Held
set_option linter.unusedVariables false

set_option maxRecDepth 100000 in
set_option maxHeartbeats 6400000 in
theorem gateStays_walk (w : World) (wi dl tk : Int) (w0 : (Lit.int .u8 wi).wf = true) (w1 : (Lit.int .u8 dl).wf = true) (w2 : (Lit.int .u8 tk).wf = true) :
    Calls Try.prog 4 #[.int .u8 wi, .int .u8 dl, .int .u8 tk] w fun e w' => e = .returned (.bool true) ∧ Below w.heap.size w w' := by
  have hwi := bounds_u8 w0
  have hdl := bounds_u8 w1
  have htk := bounds_u8 w2
  clear w0 w1 w2
  obtain ⟨n, hn⟩ : ∃ n, wi % 16 = n := ⟨_, rfl⟩
  have t1 : wi.tmod 16 = n := by rw [Int.tmod_eq_emod_of_nonneg (by omega)]; exact hn
  have t2 : IntKind.u8.wrap n = n := IntWalk.u8_in _ (by omega)
  have t3 : IntKind.i64.wrap n = n := IntWalk.i64_in _ (by omega)
  obtain ⟨m, hm⟩ : ∃ m, n + 1 = m := ⟨_, rfl⟩
  have t4 : IntKind.i64.wrap (n + 1) = m := by rw [hm]; exact IntWalk.i64_in _ (by omega)
  obtain ⟨k, hk⟩ : ∃ k, m - 1 = k := ⟨_, rfl⟩
  have t5 : IntKind.i64.wrap (m - 1) = k := by rw [hk]; exact IntWalk.i64_in _ (by omega)
  obtain ⟨d, hd⟩ : ∃ d, dl % 201 = d := ⟨_, rfl⟩
  have t6 : dl.tmod 201 = d := by rw [Int.tmod_eq_emod_of_nonneg (by omega)]; exact hd
  have t7 : IntKind.u8.wrap d = d := IntWalk.u8_in _ (by omega)
  have t8 : IntKind.i64.wrap d = d := IntWalk.i64_in _ (by omega)
  have t9 : IntKind.i64.wrap tk = tk := IntWalk.i64_in _ (by omega)
  have d0 : 0 ≤ d := by omega
  have d1 : d ≤ 200 := by omega
  have hwm : wd ⟨m, m⟩ = true := by simp [wd]
  have hwk : wd ⟨k, m⟩ = false := by simp [wd]; omega
  have hsm : sh ⟨m, m⟩ = false := by simp [sh]; omega
  have HA : Hid (∀ W, Calls Try.prog 8 #[] W (Says W (.bool true))) := Lib.hid fun W => awake_any W
  have HS0 : Hid (∀ W, Calls Try.prog 10 #[.agg #[.int .i64 0, .int .i64 0], .agg #[.int .i64 k, .int .i64 m], .agg #[.int .i64 m, .int .i64 m], .int .i64 d] W (Says W (.agg #[.int .i64 d, .int .i64 0]))) := Lib.hid fun W => by
    have := Step_any ⟨0, 0⟩ (by decide) (by decide) ⟨k, m⟩ ⟨m, m⟩ d W
    unfold gs at this
    rw [hwm, hwk, hsm] at this
    exact this
  have HS : Hid (∀ x, 0 ≤ x → x ≤ 200 → ∀ W, Calls Try.prog 10 #[.agg #[.int .i64 x, .int .i64 0], .agg #[.int .i64 m, .int .i64 m], .agg #[.int .i64 m, .int .i64 m], .int .i64 d] W (Says W (.agg #[.int .i64 (max 0 (x - 1)), .int .i64 0]))) := Lib.hid fun x h0 h1 W => by
    have := Step_any ⟨x, 0⟩ h0 h1 ⟨m, m⟩ ⟨m, m⟩ d W
    unfold gs at this
    rw [hwm, hsm] at this
    exact this
  have HR : Hid (∀ x W, Calls Try.prog 13 #[.agg #[.int .i64 x, .int .i64 0], .agg #[.int .i64 m, .int .i64 m]] W (Says W (.bool (decide (x = 0))))) := Lib.hid fun x W => by
    have := Ready_any ⟨x, 0⟩ ⟨m, m⟩ W
    unfold rd at this
    rw [hwm] at this
    exact this
  have HRk : Hid (∀ x W, Calls Try.prog 13 #[.agg #[.int .i64 x, .int .i64 0], .agg #[.int .i64 k, .int .i64 m]] W (Says W (.bool true))) := Lib.hid fun x W => by
    have := Ready_any ⟨x, 0⟩ ⟨k, m⟩ W
    unfold rd at this
    rw [hwk] at this
    exact this
  clear hwm hwk hsm hn hm hk hd hwi hdl
  go_enter Try.func4, Try.ntmps4
  go_wp2_with (first
    | (go_at_call 8; (with_reducible refine (HA.out _).mono ?_); clear HA; rintro e w1 ⟨rfl, h1⟩; have hj1 := Lib.hid (((J.start w).next h1).push #[.int .i64 m, .int .i64 m] 25); have hX1 : w.heap.size ≤ w1.heap.size := h1.size; clear h1; obtain ⟨a0, a1⟩ := (hj1.out.bx 0 rfl).c2)
    | (go_at_call 10; (with_reducible refine (HS0.out _).mono ?_); clear HS0 a0 a1; rintro e w2 ⟨rfl, h2⟩; have hlt := ((hj1.out.next h2).bx 0 rfl).lt; have hj2 := Lib.hid ((hj1.out.next h2).push #[.int .i64 d, .int .i64 0] 27); clear h2 hj1))
  have hX : w.heap.size ≤ w2.heap.size := by omega
  generalize w1.heap.size = X at *
  have hY : X ≠ w2.heap.size := by omega
  have hY' : w2.heap.size ≠ X := by omega
  clear hlt hX1
  go_loopw [13] (fun a wr => ∃ (i : Nat) (x : Int), a = .int .i64 i ∧ (i : Int) ≤ tk ∧ Hid (x = max 0 (d - i)) ∧ Hid (J w wr [(w2.heap.size, #[.int .i64 x, .int .i64 0]), (X, #[.int .i64 m, .int .i64 m])])) (fun a _ => tk.toNat - (intOf a).toNat)
  case atStart => exact ⟨0, d, rfl, by simp; omega, Lib.hid (by simp; omega), hj2⟩
  case round =>
    clear hj2
    obtain ⟨i, x, rfl, hi, hx, hj⟩ := hrel
    obtain ⟨b0, b1⟩ := (hj.out.bx 0 rfl).c2
    obtain ⟨a0, a1⟩ := (hj.out.bx 1 rfl).c2
    by_cases hlt : (i : Int) < tk
    · have e3 : IntKind.i64.wrap ((i : Int) + 1) = ((i + 1 : Nat) : Int) := by rw [IntWalk.i64_in _ (by omega)]; rfl
      have hx2 := hx.out
      have HRx := Lib.hid (HR.out x)
      have HSx := Lib.hid (HS.out x (by omega) (by omega))
      have ways : (decide (x = 0) = true ∧ d ≤ (i : Int)) ∨ (decide (x = 0) = false ∧ ¬ d ≤ (i : Int)) := by
        by_cases h : d ≤ (i : Int)
        · exact .inl ⟨by simp; omega, h⟩
        · exact .inr ⟨by simp; omega, h⟩
      obtain ⟨x', hx'⟩ : ∃ x', max 0 (x - 1) = x' := ⟨_, rfl⟩
      rw [hx'] at HSx
      have HX' : Hid (x' = max 0 (d - ((i + 1 : Nat) : Int))) := Lib.hid (by rw [← hx']; simp only [Int.natCast_add]; omega)
      clear hx' hx2
      generalize decide (x = 0) = B at *
      rcases ways with ⟨rfl, k1⟩ | ⟨rfl, k1⟩
      all_goals
        go_wp2_with (first
          | (go_at_call 13; (with_reducible refine (HRx.out _).mono ?_); clear HRx a0 a1 b0 b1; rintro e w3 ⟨rfl, h3⟩; have hj3 := Lib.hid (hj.out.next h3); clear h3; obtain ⟨b0, b1⟩ := (hj3.out.bx 0 rfl).c2; obtain ⟨a0, a1⟩ := (hj3.out.bx 1 rfl).c2)
          | (go_at_call 10; (with_reducible refine (HSx.out _).mono ?_); clear HSx a0 a1 b0 b1; rintro e w4 ⟨rfl, h4⟩; have hj4 := Lib.hid (hj3.out.next h4); clear h4 hj3; obtain ⟨b0, b1⟩ := (hj4.out.bx 0 rfl).c2; obtain ⟨f0, f1⟩ := (hj4.out.bx 0 rfl).f2))
        go_roundw
        case rel => exact ⟨i + 1, x', rfl, by simp only [Int.natCast_add]; omega, HX', Lib.hid (Lef.jfill2 hj4.out hX (fun y hy => by simp at hy; subst hy; exact hY))⟩
        case measure => simp [intOf]; omega
    · have HRx := Lib.hid (HRk.out x)
      go_wp2_with (go_at_call 13; (with_reducible refine (HRx.out _).mono ?_); clear HRx; rintro e w3 ⟨rfl, h3⟩; have hj3 := Lib.hid (hj.out.next h3); clear h3)
      go_ret
      exact ⟨rfl, hj3.out.below⟩

end Go.Proofs.Ytaknnkmdfimcbaa.Walk
