/- awake of layer 11; the law's sum. -/
import Derived.Test.YtnojenokeggpoaaMetB
import Derived.Test.YtnojenokeggpoaaSatR
namespace Go.Proofs.Ytnojenokeggpoaa.Mtr
open Go.RowKit Go.Proofs.Ytnojenokeggpoaa.SatP Go.Proofs.Ytnojenokeggpoaa.MetP Go.Proofs.Ytnojenokeggpoaa.Box Go.Proofs.Ytnojenokeggpoaa.Sees Go.Proofs.Ytnojenokeggpoaa.Ato
set_option linter.unusedVariables false

theorem dv_pos (l : List Int) (x : Int) (h : 0 < x) : addV (dv l) x = dv (l ++ [x]) := by
  rw [dv_snoc, show max 0 x = x by omega]
  unfold addV
  rw [bnd_id (by have := dv_nonneg l; omega) (dv_le l)]
theorem dv_back (l : List Int) (x : Int) (h : ¬ 0 < x) : dv (l ++ [x]) = dv l := by
  rw [dv_snoc, show max 0 x = 0 by omega, bnd_id (x := 0) (by omega) (by omega), Int.add_zero]
  exact bnd_id (by have := dv_nonneg l; omega) (dv_le l)

set_option maxHeartbeats 1600000 in
theorem sum_any (zs : List Int) (A : Option Addr) (n cap : Nat) (w : World) (hl : zs.length = n) (hn : n ≤ 1000) (hs : Sees w w.heap.size A (nums .i64 zs)) :
    Calls Try.prog 8 #[.slice A n cap] w fun e w' => e = .returned (.int .i64 (dv zs)) ∧ w = w' := by
  have HL := Lib.hid hl
  have HE := Lib.hid hs
  clear hl hs
  go_enter Try.func8, Try.ntmps8
  go_wp2
  go_loop [3, 4] (fun s i => ∃ k : Nat, k ≤ n ∧ i = .int .i64 k ∧ s = .int .i64 (dv (zs.take k))) (fun _ i => n - (intOf i).toNat)
  case atStart => exact ⟨0, Nat.zero_le _, rfl, rfl⟩
  case round =>
    obtain ⟨k, hk, rfl, rfl⟩ := hrel
    by_cases hlt : k < n
    · have hlt' : k < zs.length := by rw [HL.out]; exact hlt
      obtain ⟨b, o, rfl, hbB, hcell⟩ := HE.out.at_ (nums_at .i64 zs k hlt')
      have HT := Lib.hid (Plain.take_snoc zs k hlt' 0)
      generalize zs[k]?.getD 0 = x at *
      clear hlt'
      by_cases hx : 0 < x
      · have HA := Lib.hid (fun W => Sat.refAdd_any (dv (zs.take k)) x W)
        rw [dv_pos _ _ hx, ← HT.out] at HA
        clear HT
        obtain ⟨y, hy⟩ : ∃ y, dv (zs.take (k + 1)) = y := ⟨_, rfl⟩
        rw [hy] at HA
        have HY := Lib.hid hy
        clear hy
        generalize dv (zs.take k) = d at *
        generalize addM d x = m at *
        go_wp2_with (go_at_call 13; refine (HA.out _).mono ?_; rintro e w' ⟨rfl, rfl⟩)
        go_round
        case rel => exact ⟨k + 1, by omega, by go_num, by rw [HY.out]⟩
        case measure => simp [intOf]; omega
      · have HD := Lib.hid (dv_back (zs.take k) x hx)
        rw [← HT.out] at HD
        clear HT
        go_wp2
        go_round
        case rel => exact ⟨k + 1, by omega, by go_num, by rw [HD.out]⟩
        case measure => simp [intOf]; omega
    · obtain rfl : k = n := by omega
      rw [List.take_of_length_le (by rw [HL.out]; exact Nat.le_refl _)]
      go_wp2
      go_ret
      exact ⟨rfl, rfl⟩

set_option maxHeartbeats 1600000 in
theorem awake_any (w : World) : Calls Try.prog 6 #[] w (Says w (.bool true)) := by
  have H1 : Hid (∀ W, J w W [(w.heap.size + 1, #[.int .i64 3, .int .i64 (-4), .int .i64 2]), (w.heap.size, cells 0 0 0)] → Calls Try.prog 9 #[.pointer (some ⟨w.heap.size, 0, none⟩), .slice (some ⟨w.heap.size + 1, 0, none⟩) 3 3] W fun e w' => e = .returned (.int .i64 5) ∧ J w w' [(w.heap.size, cells 5 5 1)]) := Lib.hid fun W hj =>
    (tick_any [3, -4, 2] _ 3 3 w.heap.size 0 0 0 W rfl (by omega) (sees_bx (hj.bx 0 rfl)) (hj.bx 1 rfl) (by omega)).mono fun e w' ⟨h1, h2⟩ => ⟨h1, j_tick (hj.less fun x hx => List.mem_cons_of_mem _ hx) (Nat.le_refl _) (fun x hx => by cases hx) h2⟩
  have H2 : Hid (∀ W, J w W [(w.heap.size, cells 5 5 1)] → Calls Try.prog 9 #[.pointer (some ⟨w.heap.size, 0, none⟩), .slice none 0 0] W fun e w' => e = .returned (.int .i64 0) ∧ J w w' [(w.heap.size, cells 0 5 2)]) := Lib.hid fun W hj =>
    (tick_any [] none 0 0 w.heap.size 5 5 1 W rfl (by omega) (.inl rfl) (hj.bx 0 rfl) (by omega)).mono fun e w' ⟨h1, h2⟩ => ⟨h1, j_tick hj (Nat.le_refl _) (fun x hx => by cases hx) h2⟩
  have hj2 := Lib.hid (J.two w (cells 0 0 0) #[.int .i64 3, .int .i64 (-4), .int .i64 2] 39 3)
  unfold cells at H1 H2 hj2
  go_enter Try.func6, Try.ntmps6
  go_wp2_with (first
    | (go_at_call 7; refine (New_any _).mono ?_; rintro e w1 ⟨rfl, rfl⟩)
    | (go_at_call 9; (with_reducible refine (H1.out _ hj2.out).mono ?_); clear H1; rintro e w2 ⟨rfl, h2⟩; have hj3 := Lib.hid h2; clear h2)
    | (go_at_call 9; (with_reducible refine (H2.out _ hj3.out).mono ?_); clear H2; rintro e w3 ⟨rfl, h3⟩; have hj4 := Lib.hid h3; clear h3; obtain ⟨c0, c1, c2⟩ := (hj4.out.bx 0 rfl).c3)
    | (go_at_call 11; refine (high_any _ 5 _ c1).mono ?_; rintro e w' ⟨rfl, rfl⟩)
    | (go_at_call 10; refine (last_any _ 0 _ c0).mono ?_; rintro e w' ⟨rfl, rfl⟩)
    | (go_at_call 12; refine (ticks_any _ 2 _ c2).mono ?_; rintro e w' ⟨rfl, rfl⟩))
  go_ret
  exact ⟨rfl, hj4.out.below⟩

end Go.Proofs.Ytnojenokeggpoaa.Mtr
