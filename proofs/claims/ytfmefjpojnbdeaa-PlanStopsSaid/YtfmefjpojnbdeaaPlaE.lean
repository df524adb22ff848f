/- Contracts of the reference of layer 6, and of what its laws begin with. -/
import Derived.Test.YtfmefjpojnbdeaaPlaD
namespace Go.Proofs.Ytfmefjpojnbdeaa.Pla
open Go.RowKit Go.Shelf Go.Proofs.Ytfmefjpojnbdeaa.PlaP
set_option linter.unusedVariables false

theorem refWithin_any (n l h : Int) (hlh : l ≤ h) (w : World) : Calls Try.prog 17 #[.int .i64 n, .int .i64 l, .int .i64 h] w fun e w' => e = .returned (.int .i64 (cl n l h)) ∧ w = w' := by
  by_cases h0 : n < l
  · have E : Hid (cl n l h = l) := Lib.hid (by unfold cl; omega)
    clear hlh
    go_enter Try.func17, Try.ntmps17
    go_wp2
    go_ret
    exact ⟨ret_int (by rw [E.out]), rfl⟩
  · by_cases h1 : h < n
    · have E : Hid (cl n l h = h) := Lib.hid (by unfold cl; omega)
      clear hlh
      go_enter Try.func17, Try.ntmps17
      go_wp2
      go_ret
      exact ⟨ret_int (by rw [E.out]), rfl⟩
    · have E : Hid (cl n l h = n) := Lib.hid (by unfold cl; omega)
      clear hlh
      go_enter Try.func17, Try.ntmps17
      go_wp2
      go_ret
      exact ⟨ret_int (by rw [E.out]), rfl⟩

set_option maxHeartbeats 1000000 in
theorem refStop_any (s : Int) (w : World) : Calls Try.prog 11 #[.int .i64 s] w fun e w' => e = .returned (.int .i64 (St s)) ∧ w = w' := by
  have HB := Lib.hid (fun W => refWithin_any s 0 8 (by omega) W)
  have hv0 : 0 ≤ cl s 0 8 := cl_ge
  have hv8 : cl s 0 8 ≤ 8 := cl_le (by omega)
  unfold St
  generalize cl s 0 8 = v at *
  obtain ⟨n, rfl⟩ := Int.eq_ofNat_of_zero_le hv0
  have hn8 : n ≤ 8 := by omega
  have HS : Hid (sums n = st (n : Int)) := Lib.hid (by have := sums_st (v := (n : Int)) (by omega) (by omega); simpa using this)
  clear hv0 hv8
  go_enter Try.func11, Try.ntmps11
  go_wp2_with (go_at_call 17; refine (HB.out _).mono ?_; rintro e w' ⟨rfl, rfl⟩)
  go_loop [3, 4] (fun a b => ∃ k : Nat, k ≤ n ∧ b = .int .i64 k ∧ a = .int .i64 (sums k)) (fun _ b => n - (intOf b).toNat)
  case atStart => exact ⟨0, Nat.zero_le _, rfl, rfl⟩
  case round =>
    obtain ⟨k, hk, rfl, rfl⟩ := hrel
    by_cases hlt : k < n
    · have h1 := sums_le (k := k) (by omega)
      have h2 : Hid (sums (k + 1) = sums k + (k : Int)) := Lib.hid rfl
      generalize sums k = y at *
      have e1 : IntKind.i64.wrap (y + (k : Int)) = y + (k : Int) := IntWalk.i64_in _ (by omega)
      have e2 : IntKind.i64.wrap ((k : Int) + 1) = ((k + 1 : Nat) : Int) := by rw [IntWalk.i64_in _ (by omega)]; rfl
      go_wp2
      go_round
      case rel => exact ⟨k + 1, by omega, rfl, by rw [h2.out]⟩
      case measure => simp [intOf]; omega
    · obtain rfl : k = n := by omega
      go_wp2
      go_ret
      exact ⟨ret_int HS.out, rfl⟩


theorem bst_bd {v l : Int} : ∀ {k : Nat}, 0 ≤ bst v l k ∧ bst v l k ≤ (k : Int)
  | 0 => by simp [bst]
  | k + 1 => by
    have h := bst_bd (v := v) (l := l) (k := k)
    unfold bst; split <;> omega
theorem bst_yes {v l : Int} {k : Nat} (h : (k : Int) ≤ v + 1) (h2 : v - 1 ≤ (k : Int)) (h3 : (k : Int) + st (k : Int) ≤ l) : bst v l (k + 1) = (k : Int) := by
  rw [bst, if_pos ⟨h, h2, h3⟩]
theorem bst_no {v l : Int} {k : Nat} (h : ¬ ((k : Int) ≤ v + 1 ∧ v - 1 ≤ (k : Int) ∧ (k : Int) + st (k : Int) ≤ l)) : bst v l (k + 1) = bst v l k := by
  rw [bst, if_neg h]

set_option maxHeartbeats 1000000 in
theorem refNext_any (s l m : Int) (w : World) : Calls Try.prog 13 #[.int .i64 s, .int .i64 l, .int .i64 m] w fun e w' => e = .returned (.int .i64 (Nx s l m)) ∧ w = w' := by
  have H1 := Lib.hid (fun W => refWithin_any s 0 8 (by omega) W)
  have H2 := Lib.hid (fun W => refWithin_any l 0 1000 (by omega) W)
  have H3 := Lib.hid (fun W => refWithin_any m 1 8 (by omega) W)
  have v0 : 0 ≤ cl s 0 8 := cl_ge
  have v8 : cl s 0 8 ≤ 8 := cl_le (by omega)
  have c0 : 0 ≤ cl l 0 1000 := cl_ge
  have q1 : 1 ≤ cl m 1 8 := cl_ge
  have q8 : cl m 1 8 ≤ 8 := cl_le (by omega)
  unfold Nx
  have HR := Lib.hid (bst_nx v0 v8 c0 q1 q8)
  generalize cl s 0 8 = v at *
  generalize cl l 0 1000 = c at *
  generalize cl m 1 8 = q at *
  obtain ⟨n, rfl⟩ := Int.eq_ofNat_of_zero_le (show 0 ≤ q by omega)
  have hn8 : n ≤ 8 := by omega
  have HN : Hid (bst v c (n + 1) = nx v c (n : Int)) := Lib.hid (by have := HR.out; rwa [show ((n : Int) + 1).toNat = n + 1 by omega] at this)
  clear HR q1 q8 c0
  have e1 : IntKind.i64.wrap (v + 1) = v + 1 := IntWalk.i64_in _ (by omega)
  have e2 : IntKind.i64.wrap (v - 1) = v - 1 := IntWalk.i64_in _ (by omega)
  go_enter Try.func13, Try.ntmps13
  go_wp2_with (first
    | (go_at_call 17; refine (H1.out _).mono ?_; clear H1; rintro e w' ⟨rfl, rfl⟩)
    | (go_at_call 17; refine (H2.out _).mono ?_; clear H2; rintro e w' ⟨rfl, rfl⟩)
    | (go_at_call 17; refine (H3.out _).mono ?_; clear H3; rintro e w' ⟨rfl, rfl⟩))
  go_loop [7, 8] (fun a b => ∃ k : Nat, k ≤ n + 1 ∧ b = .int .i64 k ∧ a = .int .i64 (bst v c k)) (fun _ b => n + 1 - (intOf b).toNat)
  case atStart => exact ⟨0, Nat.zero_le _, rfl, rfl⟩
  case round =>
    obtain ⟨k, hk, rfl, rfl⟩ := hrel
    by_cases hlt : (k : Int) ≤ (n : Int)
    · have h1 := bst_bd (v := v) (l := c) (k := k)
      have hs := st_le (x := (k : Int)) (by omega) (by omega)
      have HS : Hid (∀ W, Calls Try.prog 11 #[.int .i64 (k : Int)] W fun e w' => e = .returned (.int .i64 (st (k : Int))) ∧ W = w') := Lib.hid fun W => by
        have := refStop_any (k : Int) W; unfold St at this; rwa [cl_id (by omega) (by omega)] at this
      have HY := Lib.hid (bst_yes (v := v) (l := c) (k := k))
      have HNo := Lib.hid (bst_no (v := v) (l := c) (k := k))
      generalize st (k : Int) = z at *
      generalize bst v c k = y at *
      have e3 : IntKind.i64.wrap ((k : Int) + z) = (k : Int) + z := IntWalk.i64_in _ (by omega)
      have e4 : IntKind.i64.wrap ((k : Int) + 1) = ((k + 1 : Nat) : Int) := by rw [IntWalk.i64_in _ (by omega)]; rfl
      by_cases t1 : (k : Int) ≤ v + 1
      · by_cases t2 : v - 1 ≤ (k : Int)
        · by_cases t3 : (k : Int) + z ≤ c
          · have HB := Lib.hid (HY.out t1 t2 t3)
            clear HY HNo
            go_wp2_with (go_at_call 11; refine (HS.out _).mono ?_; rintro e w' ⟨rfl, rfl⟩)
            go_round
            case rel => exact ⟨k + 1, by omega, rfl, by rw [HB.out]⟩
            case measure => simp [intOf]; omega
          · have HB := Lib.hid (HNo.out (by omega))
            clear HY HNo
            go_wp2_with (go_at_call 11; refine (HS.out _).mono ?_; rintro e w' ⟨rfl, rfl⟩)
            go_round
            case rel => exact ⟨k + 1, by omega, rfl, by rw [HB.out]⟩
            case measure => simp [intOf]; omega
        · have HB := Lib.hid (HNo.out (by omega))
          clear HY HNo
          go_wp2
          go_round
          case rel => exact ⟨k + 1, by omega, rfl, by rw [HB.out]⟩
          case measure => simp [intOf]; omega
      · have HB := Lib.hid (HNo.out (by omega))
        clear HY HNo
        go_wp2
        go_round
        case rel => exact ⟨k + 1, by omega, rfl, by rw [HB.out]⟩
        case measure => simp [intOf]; omega
    · obtain rfl : k = n + 1 := by omega
      have HB := HN
      go_wp2
      go_ret
      exact ⟨ret_int HN.out, rfl⟩

theorem refNext_safe (m : Int) : ∀ v l', PlaP.Safe (cl m 1 8) v l' → l' ≤ 1000 → ∀ W, Calls Try.prog 13 #[.int .i64 v, .int .i64 l', .int .i64 m] W fun e w' => e = .returned (.int .i64 (nx v l' (cl m 1 8))) ∧ W = w' :=
  fun v l' h1 h2 W => by rw [← Nx_safe h1 h2]; exact refNext_any v l' m W

set_option maxHeartbeats 1000000 in
theorem refTicks_any (l m : Int) (w : World) : Calls Try.prog 15 #[.int .i64 l, .int .i64 m] w fun e w' => e = .returned (.int .i64 (Tk l m)) ∧ w = w' := by
  have HB := Lib.hid (fun W => refWithin_any l 0 1000 (by omega) W)
  have hc0 : 0 ≤ cl l 0 1000 := cl_ge
  have hc1 : cl l 0 1000 ≤ 1000 := cl_le (by omega)
  have HNX := Lib.hid (refNext_safe m)
  have hs0 : PlaP.Safe (cl m 1 8) 0 (cl l 0 1000) := Safe.new cl_ge (cl_le (by omega)) hc0
  have HS0 := Lib.hid hs0
  have hle := S_le (cl l 0 1000).toNat hs0 (by omega)
  unfold Tk
  clear hs0
  generalize cl m 1 8 = q at *
  generalize cl l 0 1000 = c at *
  obtain ⟨t, ht⟩ : ∃ t, S q 0 c = t := ⟨_, rfl⟩
  have HT := Lib.hid ht
  have ht1 : (t : Int) ≤ 1000 := by rw [← ht]; omega
  rw [ht]
  clear hle ht
  go_enter Try.func15, Try.ntmps15
  go_wp2_with (go_at_call 17; refine (HB.out _).mono ?_; rintro e w' ⟨rfl, rfl⟩)
  go_loop [0, 5, 6] (fun a b d => ∃ (v l' : Int) (n : Nat), a = .int .i64 l' ∧ b = .int .i64 n ∧ d = .int .i64 v ∧ Hid (PlaP.Safe q v l') ∧ l' ≤ 1000 ∧ 0 ≤ l' ∧ Hid (n + S q v l' = t)) (fun a _ _ => (intOf a).toNat)
  case atStart => exact ⟨0, c, 0, rfl, rfl, rfl, HS0, hc1, hc0, Lib.hid (by rw [Nat.zero_add]; exact HT.out)⟩
  case round =>
    obtain ⟨v, l', n, rfl, rfl, rfl, hs, hl1, hl0, hn⟩ := hrel
    have hnt : (n : Int) < 2000 := by have := hn.out; omega
    by_cases hlt : 0 < l'
    · have hx := hs.out.next
      have HX := Lib.hid hx.1
      have hx1 := hx.1.l0
      have hx3 : 0 < nx v l' q := by have := hx.2.2.2; omega
      have HN2 := Lib.hid (S_step hs.out hlt)
      have HC := Lib.hid (HNX.out v l' hs.out hl1)
      clear hx
      generalize nx v l' q = x at *
      have e1 : IntKind.i64.wrap (l' - x) = l' - x := IntWalk.i64_in _ (by omega)
      have hn1 : n + 1 ≤ t := by have := hn.out; have := HN2.out; omega
      have e2 : IntKind.i64.wrap ((n : Int) + 1) = ((n + 1 : Nat) : Int) := by rw [IntWalk.i64_in _ (by omega)]; rfl
      go_wp2_with (go_at_call 13; refine (HC.out _).mono ?_; rintro e w2 ⟨rfl, rfl⟩)
      go_round
      case rel => exact ⟨x, l' - x, n + 1, rfl, rfl, rfl, HX, by omega, hx1, Lib.hid (by have := hn.out; have := HN2.out; omega)⟩
      case measure => simp [intOf]; omega
    · have hz : S q v l' = 0 := S_nil (by omega)
      have hn' : n = t := by have := hn.out; omega
      subst hn'
      clear hz
      go_wp2
      go_ret
      exact ⟨rfl, rfl⟩

theorem ex1 : Tk 9 2 = 6 := by decide +kernel
theorem ex2 : Nx 0 9 2 = 1 := by decide +kernel
theorem ex3 : Nx 2 2 2 = 1 := by decide +kernel
theorem ex4 : St 4 = 6 := by decide +kernel
theorem awake_any (w : World) : Calls Try.prog 9 #[] w (Says w (.bool true)) := by
  have H1 : Hid (∀ W, Calls Try.prog 14 #[.int .i64 9, .int .i64 2] W (Says W (.int .i64 6))) := Lib.hid fun W => by rw [← ex1]; exact Ticks_any 9 2 W
  have H2 : Hid (∀ W, Calls Try.prog 12 #[.int .i64 0, .int .i64 9, .int .i64 2] W (Says W (.int .i64 1))) := Lib.hid fun W => by rw [← ex2]; exact Next_any 0 9 2 W
  have H3 : Hid (∀ W, Calls Try.prog 12 #[.int .i64 2, .int .i64 2, .int .i64 2] W (Says W (.int .i64 1))) := Lib.hid fun W => by rw [← ex3]; exact Next_any 2 2 2 W
  have H4 : Hid (∀ W, Calls Try.prog 10 #[.int .i64 4] W fun e w' => e = .returned (.int .i64 6) ∧ W = w') := Lib.hid fun W => by rw [← ex4]; exact Stop_any 4 W
  go_enter Try.func9, Try.ntmps9
  go_wp2_with (first
    | (go_at_call 14; refine (H1.out _).mono ?_; clear H1; rintro e w1 ⟨rfl, h1⟩)
    | (go_at_call 12; refine (H2.out _).mono ?_; clear H2; rintro e w2 ⟨rfl, h2⟩)
    | (go_at_call 12; refine (H3.out _).mono ?_; clear H3; rintro e w3 ⟨rfl, h3⟩)
    | (go_at_call 10; refine (H4.out _).mono ?_; clear H4; rintro e w4 ⟨rfl, rfl⟩))
  go_ret
  exact ⟨rfl, below_says (below_says h1 h2) h3⟩

end Go.Proofs.Ytfmefjpojnbdeaa.Pla
