/- The contract of layer 7's reference Near; awake. -/
import Derived.Test.YtngcmibgpmnohaaCarC
import Derived.LoopIn
namespace Go.Proofs.Ytngcmibgpmnohaa.Car
open Go.RowKit Go.Proofs.Ytngcmibgpmnohaa.CarP Go.Proofs.Ytngcmibgpmnohaa.Box Go.Proofs.Ytngcmibgpmnohaa.Held
set_option linter.unusedVariables false

set_option maxHeartbeats 800000 in
theorem refNear_any (c : K) (hp : 0 ≤ c.p) (p1 : c.p ≤ 1000000) (dir : Int) (w : World) : Calls Try.prog 19 #[val c, .int .i64 dir] w (Says w (.int .i64 (nr c.p dir))) := by
  obtain ⟨p, v, l⟩ := c
  unfold val
  simp only at hp p1 ⊢
  obtain ⟨x, hx⟩ : ∃ x, nr p dir = x := ⟨_, rfl⟩
  rw [hx]
  unfold nr at hx
  by_cases h0 : dir = 0
  · rw [if_pos (.inl h0)] at hx
    subst h0; subst hx
    go_enter Try.func19, Try.ntmps19
    go_wp2
    go_loop [5] (fun a => a = .int .i64 0) (fun _ => 0)
    case atStart => rfl
    case round =>
      subst hrel
      go_wp2
      go_ret
      exact ⟨rfl, below_box⟩
  · have d0 : (dir != 0) = true := by simpa using h0
    by_cases hd : 0 < dir
    · have hx0 : 0 ≤ x := by rw [← hx]; split <;> (try split) <;> omega
      have hx8 : x ≤ 7 := by rw [← hx]; split <;> (try split) <;> omega
      have hxr : (p + x) % 8 = 0 ∧ ∀ k, 0 ≤ k → k < x → (p + k) % 8 ≠ 0 := by
        rw [← hx]
        by_cases hz : p % 8 = 0
        · rw [if_pos (.inr hz)]; exact ⟨by omega, fun k h1 h2 => by omega⟩
        · rw [if_neg (by omega), if_pos hd]; exact ⟨by omega, fun k h1 h2 => by omega⟩
      obtain ⟨hr0, hrk⟩ := hxr
      have HK := Lib.hid hrk
      clear hx hrk
      go_enter Try.func19, Try.ntmps19
      go_wp2
      go_loop [5] (fun a => ∃ k : Int, 0 ≤ k ∧ k ≤ x ∧ a = .int .i64 k) (fun a => (x - intOf a).toNat)
      case atStart => exact ⟨0, by omega, hx0, rfl⟩
      case round =>
        obtain ⟨k, k0, kx, rfl⟩ := hrel
        have e1 : IntKind.i64.wrap (p + k) = p + k := IntWalk.i64_in _ (by omega)
        have e2 : (p + k).tmod 8 = (p + k) % 8 := Int.tmod_eq_emod_of_nonneg (by omega)
        have e3 : IntKind.i64.wrap (k + 1) = k + 1 := IntWalk.i64_in _ (by omega)
        by_cases hk : k < x
        · have hne := HK.out k k0 hk
          generalize (p + k) % 8 = r at *
          have e4 : (r != 0) = true := by simpa using hne
          go_wp2
          go_round
          case rel => exact ⟨k + 1, by omega, by omega, rfl⟩
          case measure => simp [intOf]; omega
        · obtain rfl : k = x := by omega
          rw [hr0] at e2
          clear HK
          go_wp2
          go_ret
          exact ⟨rfl, below_box⟩
    · have hx0 : 0 ≤ x := by rw [← hx]; split <;> (try split) <;> omega
      have hx8 : x ≤ 7 := by rw [← hx]; split <;> (try split) <;> omega
      have hxp : x ≤ p := by rw [← hx]; split <;> (try split) <;> omega
      have hxr : (p + -x) % 8 = 0 ∧ ∀ k, 0 ≤ k → k < x → (p + -k) % 8 ≠ 0 := by
        rw [← hx]
        by_cases hz : p % 8 = 0
        · rw [if_pos (.inr hz)]; exact ⟨by omega, fun k h1 h2 => by omega⟩
        · rw [if_neg (by omega), if_neg hd]; exact ⟨by omega, fun k h1 h2 => by omega⟩
      obtain ⟨hr0, hrk⟩ := hxr
      have HK := Lib.hid hrk
      clear hx hrk
      have dd : decide (0 < dir) = false := by simpa using hd
      go_enter Try.func19, Try.ntmps19
      go_wp2
      go_loop [5] (fun a => ∃ k : Int, 0 ≤ k ∧ k ≤ x ∧ a = .int .i64 (-k)) (fun a => (x + intOf a).toNat)
      case atStart => exact ⟨0, by omega, hx0, rfl⟩
      case round =>
        obtain ⟨k, k0, kx, rfl⟩ := hrel
        have e1 : IntKind.i64.wrap (p + -k) = p + -k := IntWalk.i64_in _ (by omega)
        have e2 : (p + -k).tmod 8 = (p + -k) % 8 := Int.tmod_eq_emod_of_nonneg (by omega)
        have e3 : IntKind.i64.wrap (-k - 1) = -(k + 1) := by rw [IntWalk.i64_in _ (by omega)]; omega
        by_cases hk : k < x
        · have hne := HK.out k k0 hk
          generalize (p + -k) % 8 = r at *
          have e4 : (r != 0) = true := by simpa using hne
          go_wp2
          go_round
          case rel => exact ⟨k + 1, by omega, by omega, rfl⟩
          case measure => simp [intOf]; omega
        · obtain rfl : k = x := by omega
          rw [hr0] at e2
          have e5 : IntKind.i64.wrap (- -k) = k := by rw [Int.neg_neg]; exact IntWalk.i64_in _ (by omega)
          have e6 : IntKind.i64.wrap k = k := IntWalk.i64_in _ (by omega)
          clear HK
          by_cases hk0 : k = 0
          · subst hk0
            go_wp2
            go_ret
            exact ⟨rfl, below_box⟩
          · have hkn : -k < 0 := by omega
            go_wp2
            go_ret
            exact ⟨rfl, below_box⟩

/-- the document's example -/
theorem ex_step : tick ⟨7, 1, 4⟩ 3 false 4 = ⟨9, 2, 4⟩ := rfl
theorem ex_near : nr 9 1 = 7 := by decide
theorem ex_top : tp 4 = 24 := by decide
theorem ex_light : lt 4 4 = -1 := by decide

set_option maxHeartbeats 1600000 in
theorem awake_any (w : World) : Calls Try.prog 8 #[] w (Says w (.bool true)) := by
  have hS : ∀ W, Calls Try.prog 10 #[.agg #[.int .i64 7, .int .i64 1, .int .i64 4], .int .i64 3, .bool false, .int .i64 4] W (Says W (.agg #[.int .i64 9, .int .i64 2, .int .i64 4])) := fun W => by
    have := Step_any ⟨7, 1, 4⟩ ⟨by decide, by decide, by decide, by decide⟩ 3 false 4 W
    rwa [ex_step] at this
  have hN : ∀ W bs, Hid (J w W bs) → Calls Try.prog 18 #[.agg #[.int .i64 9, .int .i64 2, .int .i64 4], .int .i64 1] W fun e W' => e = .returned (.int .i64 7) ∧ Hid (J w W' bs) := fun W bs h => by
    have := j_of h (Near_any ⟨9, 2, 4⟩ (by decide) 1 W)
    rwa [ex_near] at this
  have hT : ∀ W bs, Hid (J w W bs) → Calls Try.prog 13 #[.int .i64 4] W fun e W' => e = .returned (.int .i64 24) ∧ Hid (J w W' bs) := fun W bs h => by
    have := j_same h (Top_any 4 W)
    rwa [ex_top] at this
  have hL : ∀ W bs, Hid (J w W bs) → Calls Try.prog 15 #[.agg #[.int .i64 8, .int .i64 0, .int .i64 0]] W fun e W' => e = .returned (.bool true) ∧ Hid (J w W' bs) := fun W bs h => j_of h (Level_any ⟨8, 0, 0⟩ (by decide) W)
  have hG : ∀ W bs, Hid (J w W bs) → Calls Try.prog 17 #[.agg #[.int .i64 7, .int .i64 1, .int .i64 4], .int .i64 4] W fun e W' => e = .returned (.int .i64 (-1)) ∧ Hid (J w W' bs) := fun W bs h => by
    have := j_of h (Light_any ⟨7, 1, 4⟩ 4 W)
    rwa [ex_light] at this
  have HS := Lib.hid hS
  have HN := Lib.hid hN
  have HT := Lib.hid hT
  have HL := Lib.hid hL
  have HG := Lib.hid hG
  clear hS hN hT hL hG
  have HJ := Lib.hid (J.one w #[.int .i64 7, .int .i64 1, .int .i64 4] 23)
  go_enter Try.func8, Try.ntmps8
  go_wp2_with (first
    | (go_at_call 10; refine (HS.out _).mono ?_; rintro e w1 ⟨rfl, h1⟩; have hj1 := Lib.hid ((HJ.out.next h1).push #[.int .i64 9, .int .i64 2, .int .i64 4] 23); clear HJ h1; obtain ⟨a0, a1, a2⟩ := (hj1.out.bx 0 rfl).c3; obtain ⟨b0, b1, b2⟩ := (hj1.out.bx 1 rfl).c3)
    | (go_at_call 18; refine (HN.out _ _ hj1).mono ?_; clear hj1 HN a0 a1 a2 b0 b1 b2; rintro e w2 ⟨rfl, hj2⟩; obtain ⟨a0, a1, a2⟩ := (hj2.out.bx 0 rfl).c3; obtain ⟨b0, b1, b2⟩ := (hj2.out.bx 1 rfl).c3)
    | (go_at_call 13; refine (HT.out _ _ hj2).mono ?_; clear hj2 HT a0 a1 a2 b0 b1 b2; rintro e w3 ⟨rfl, hj3⟩; obtain ⟨a0, a1, a2⟩ := (hj3.out.bx 0 rfl).c3; obtain ⟨b0, b1, b2⟩ := (hj3.out.bx 1 rfl).c3)
    | (go_at_call 15; refine (HL.out _ _ hj3).mono ?_; clear hj3 HL a0 a1 a2 b0 b1 b2; rintro e w4 ⟨rfl, hj4⟩; obtain ⟨a0, a1, a2⟩ := (hj4.out.bx 0 rfl).c3; obtain ⟨b0, b1, b2⟩ := (hj4.out.bx 1 rfl).c3)
    | (go_at_call 17; refine (HG.out _ _ hj4).mono ?_; rintro e w5 ⟨rfl, hj5⟩))
  go_ret
  exact ⟨rfl, hj5.out.below⟩

end Go.Proofs.Ytngcmibgpmnohaa.Car
