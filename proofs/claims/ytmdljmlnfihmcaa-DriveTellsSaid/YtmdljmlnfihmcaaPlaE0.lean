/- Contracts of the reference of layer 6: within, Stop, Next. -/
import Derived.Test.YtmdljmlnfihmcaaPlaC
import Derived.LoopN
namespace Go.Proofs.Ytmdljmlnfihmcaa.Pla
open Go.RowKit Go.Shelf Go.Proofs.Ytmdljmlnfihmcaa.PlaP
set_option linter.unusedVariables false

theorem refWithin_any (n l h : Int) (hlh : l ≤ h) (w : World) : Calls Try.prog 31 #[.int .i64 n, .int .i64 l, .int .i64 h] w fun e w' => e = .returned (.int .i64 (cl n l h)) ∧ w = w' := by
  by_cases h0 : n < l
  · have E : Hid (cl n l h = l) := Lib.hid (by unfold cl; omega)
    clear hlh
    go_enter Try.func31, Try.ntmps31
    go_wp2
    go_ret
    exact ⟨ret_int (by rw [E.out]), rfl⟩
  · by_cases h1 : h < n
    · have E : Hid (cl n l h = h) := Lib.hid (by unfold cl; omega)
      clear hlh
      go_enter Try.func31, Try.ntmps31
      go_wp2
      go_ret
      exact ⟨ret_int (by rw [E.out]), rfl⟩
    · have E : Hid (cl n l h = n) := Lib.hid (by unfold cl; omega)
      clear hlh
      go_enter Try.func31, Try.ntmps31
      go_wp2
      go_ret
      exact ⟨ret_int (by rw [E.out]), rfl⟩

set_option maxHeartbeats 1000000 in
theorem refStop_any (s : Int) (w : World) : Calls Try.prog 32 #[.int .i64 s] w fun e w' => e = .returned (.int .i64 (St s)) ∧ w = w' := by
  have HB := Lib.hid (fun W => refWithin_any s 0 8 (by omega) W)
  have hv0 : 0 ≤ cl s 0 8 := cl_ge
  have hv8 : cl s 0 8 ≤ 8 := cl_le (by omega)
  unfold St
  generalize cl s 0 8 = v at *
  obtain ⟨n, rfl⟩ := Int.eq_ofNat_of_zero_le hv0
  have hn8 : n ≤ 8 := by omega
  have HS : Hid (sums n = st (n : Int)) := Lib.hid (by have := sums_st (v := (n : Int)) (by omega) (by omega); simpa using this)
  clear hv0 hv8
  go_enter Try.func32, Try.ntmps32
  go_wp2_with (go_at_call 31; refine (HB.out _).mono ?_; rintro e w' ⟨rfl, rfl⟩)
  go_loop [3, 4] (fun a b => ∃ k : Nat, k ≤ n ∧ b = .int .i64 k ∧ a = .int .i64 (sums k)) (fun _ b => n - (intOf b).toNat)
  case atStart => exact ⟨0, Nat.zero_le _, rfl, rfl⟩
  case round =>
    obtain ⟨k, hk, rfl, rfl⟩ := hrel
    by_cases hlt : k < n
    · have h1 := sums_le (k := k) (by omega)
      have h2 : Hid (sums (k + 1) = sums k + (k : Int)) := Lib.hid rfl
      generalize sums k = y at *
      have e1 : IntKind.i64.wrap (y + (k : Int)) = y + (k : Int) := IntWalk.i64_in _ (by omega)
      have e2 : IntKind.i64.wrap ((k : Int) + 1) = ((k + 1 : Nat) : Int) := by rw [IntWalk.i64_in _ (by omega)]; rfl
      go_wp2
      go_round
      case rel => exact ⟨k + 1, by omega, rfl, by rw [h2.out]⟩
      case measure => simp [intOf]; omega
    · obtain rfl : k = n := by omega
      go_wp2
      go_ret
      exact ⟨ret_int HS.out, rfl⟩


theorem bst_bd {v l : Int} : ∀ {k : Nat}, 0 ≤ bst v l k ∧ bst v l k ≤ (k : Int)
  | 0 => by simp [bst]
  | k + 1 => by
    have h := bst_bd (v := v) (l := l) (k := k)
    unfold bst; split <;> omega
theorem bst_yes {v l : Int} {k : Nat} (h : (k : Int) ≤ v + 1) (h2 : v - 1 ≤ (k : Int)) (h3 : (k : Int) + st (k : Int) ≤ l) : bst v l (k + 1) = (k : Int) := by
  rw [bst, if_pos ⟨h, h2, h3⟩]
theorem bst_no {v l : Int} {k : Nat} (h : ¬ ((k : Int) ≤ v + 1 ∧ v - 1 ≤ (k : Int) ∧ (k : Int) + st (k : Int) ≤ l)) : bst v l (k + 1) = bst v l k := by
  rw [bst, if_neg h]

set_option maxHeartbeats 1000000 in
theorem refNext_any (s l m : Int) (w : World) : Calls Try.prog 23 #[.int .i64 s, .int .i64 l, .int .i64 m] w fun e w' => e = .returned (.int .i64 (Nx s l m)) ∧ w = w' := by
  have H1 := Lib.hid (fun W => refWithin_any s 0 8 (by omega) W)
  have H2 := Lib.hid (fun W => refWithin_any l 0 1000 (by omega) W)
  have H3 := Lib.hid (fun W => refWithin_any m 1 8 (by omega) W)
  have v0 : 0 ≤ cl s 0 8 := cl_ge
  have v8 : cl s 0 8 ≤ 8 := cl_le (by omega)
  have c0 : 0 ≤ cl l 0 1000 := cl_ge
  have q1 : 1 ≤ cl m 1 8 := cl_ge
  have q8 : cl m 1 8 ≤ 8 := cl_le (by omega)
  unfold Nx
  have HR := Lib.hid (bst_nx v0 v8 c0 q1 q8)
  generalize cl s 0 8 = v at *
  generalize cl l 0 1000 = c at *
  generalize cl m 1 8 = q at *
  obtain ⟨n, rfl⟩ := Int.eq_ofNat_of_zero_le (show 0 ≤ q by omega)
  have hn8 : n ≤ 8 := by omega
  have HN : Hid (bst v c (n + 1) = nx v c (n : Int)) := Lib.hid (by have := HR.out; rwa [show ((n : Int) + 1).toNat = n + 1 by omega] at this)
  clear HR q1 q8 c0
  have e1 : IntKind.i64.wrap (v + 1) = v + 1 := IntWalk.i64_in _ (by omega)
  have e2 : IntKind.i64.wrap (v - 1) = v - 1 := IntWalk.i64_in _ (by omega)
  go_enter Try.func23, Try.ntmps23
  go_wp2_with (first
    | (go_at_call 31; refine (H1.out _).mono ?_; clear H1; rintro e w' ⟨rfl, rfl⟩)
    | (go_at_call 31; refine (H2.out _).mono ?_; clear H2; rintro e w' ⟨rfl, rfl⟩)
    | (go_at_call 31; refine (H3.out _).mono ?_; clear H3; rintro e w' ⟨rfl, rfl⟩))
  go_loop [7, 8] (fun a b => ∃ k : Nat, k ≤ n + 1 ∧ b = .int .i64 k ∧ a = .int .i64 (bst v c k)) (fun _ b => n + 1 - (intOf b).toNat)
  case atStart => exact ⟨0, Nat.zero_le _, rfl, rfl⟩
  case round =>
    obtain ⟨k, hk, rfl, rfl⟩ := hrel
    by_cases hlt : (k : Int) ≤ (n : Int)
    · have h1 := bst_bd (v := v) (l := c) (k := k)
      have hs := st_le (x := (k : Int)) (by omega) (by omega)
      have HS : Hid (∀ W, Calls Try.prog 32 #[.int .i64 (k : Int)] W fun e w' => e = .returned (.int .i64 (st (k : Int))) ∧ W = w') := Lib.hid fun W => by
        have := refStop_any (k : Int) W; unfold St at this; rwa [cl_id (by omega) (by omega)] at this
      have HY := Lib.hid (bst_yes (v := v) (l := c) (k := k))
      have HNo := Lib.hid (bst_no (v := v) (l := c) (k := k))
      generalize st (k : Int) = z at *
      generalize bst v c k = y at *
      have e3 : IntKind.i64.wrap ((k : Int) + z) = (k : Int) + z := IntWalk.i64_in _ (by omega)
      have e4 : IntKind.i64.wrap ((k : Int) + 1) = ((k + 1 : Nat) : Int) := by rw [IntWalk.i64_in _ (by omega)]; rfl
      by_cases t1 : (k : Int) ≤ v + 1
      · by_cases t2 : v - 1 ≤ (k : Int)
        · by_cases t3 : (k : Int) + z ≤ c
          · have HB := Lib.hid (HY.out t1 t2 t3)
            clear HY HNo
            go_wp2_with (go_at_call 32; refine (HS.out _).mono ?_; rintro e w' ⟨rfl, rfl⟩)
            go_round
            case rel => exact ⟨k + 1, by omega, rfl, by rw [HB.out]⟩
            case measure => simp [intOf]; omega
          · have HB := Lib.hid (HNo.out (by omega))
            clear HY HNo
            go_wp2_with (go_at_call 32; refine (HS.out _).mono ?_; rintro e w' ⟨rfl, rfl⟩)
            go_round
            case rel => exact ⟨k + 1, by omega, rfl, by rw [HB.out]⟩
            case measure => simp [intOf]; omega
        · have HB := Lib.hid (HNo.out (by omega))
          clear HY HNo
          go_wp2
          go_round
          case rel => exact ⟨k + 1, by omega, rfl, by rw [HB.out]⟩
          case measure => simp [intOf]; omega
      · have HB := Lib.hid (HNo.out (by omega))
        clear HY HNo
        go_wp2
        go_round
        case rel => exact ⟨k + 1, by omega, rfl, by rw [HB.out]⟩
        case measure => simp [intOf]; omega
    · obtain rfl : k = n + 1 := by omega
      have HB := HN
      go_wp2
      go_ret
      exact ⟨ret_int HN.out, rfl⟩

end Go.Proofs.Ytmdljmlnfihmcaa.Pla
