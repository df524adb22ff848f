/- The walk of MeterTells. -/
import Derived.Test.YtnojenokeggpoaaMetC
import Derived.Test.YtnojenokeggpoaaOpenN
import Derived.OpenShut
import Derived.LoopN
namespace Go.Proofs.Ytnojenokeggpoaa.Walk
open Go.RowKit Go.ChangeShapes Go.Proofs.Ytnojenokeggpoaa.SatP Go.Proofs.Ytnojenokeggpoaa.MetP Go.Proofs.Ytnojenokeggpoaa.Mtr Go.Proofs.Ytnojenokeggpoaa.Box Go.Proofs.Ytnojenokeggpoaa.Sees Go.Proofs.Ytnojenokeggpoaa.Open
set_option linter.unusedVariables false

set_option maxRecDepth 100000 in
set_option maxHeartbeats 3200000 in
theorem meterTells_walk (w : World) (a0 : Option Addr) (len0 cap0 : Nat) (z0 : List RowN)
    (hl0 : z0.length = len0) (hc0 : len0 ≤ cap0) (hx0 : cap0 ≤ maxLen) (hs0 : Sees w w.heap.size a0 (z0.map RowN.val)) (hm0 : ∀ r ∈ z0, r.Ok .i64 w w.heap.size) :
    Calls Try.prog 3 #[.slice a0 len0 cap0] w fun e w' => e = .returned (.bool true) ∧ Below w.heap.size w w' := by
  unfold maxLen at hx0
  have HL0 := Lib.hid hl0
  have HS0 := Lib.hid hs0
  have HM0 := Lib.hid hm0
  clear hl0 hs0 hm0
  have HA : Hid (∀ W, Calls Try.prog 6 #[] W (Says W (.bool true))) := Lib.hid fun W => awake_any W
  by_cases hbig : 100 < len0
  · go_enter Try.func3, Try.ntmps3
    go_wp2_with (go_at_call 6; refine (HA.out _).mono ?_; rintro e w1 ⟨rfl, h1⟩)
    go_ret
    exact ⟨rfl, h1⟩
  · have g1 : ¬ (100 : Int) < (len0 : Int) := by omega
    go_enter Try.func3, Try.ntmps3
    go_wp2_with (first
      | (go_at_call 6; (with_reducible refine (HA.out _).mono ?_); clear HA; rintro e w1 ⟨rfl, h1⟩)
      | (go_at_call 7; refine (New_any _).mono ?_; rintro e w2 ⟨rfl, rfl⟩))
    have hj0 := Lib.hid (((J.start w).next h1).push #[.int .i64 0, .int .i64 0, .int .i64 0] 39)
    have hX : w.heap.size ≤ w1.heap.size := h1.size
    go_loopw [5, 6] (fun hh a wr => ∃ (i : Nat) (l h : Int), hh = .int .i64 h ∧ a = .int .i64 i ∧ i ≤ len0 ∧ Hid (J w wr [(w1.heap.size, #[.int .i64 l, .int .i64 h, .int .i64 i])])) (fun _ a _ => len0 - (intOf a).toNat)
    case atStart => exact ⟨0, 0, 0, rfl, rfl, by omega, hj0⟩
    case round =>
      obtain ⟨i, l, h, rfl, rfl, hi, hj⟩ := hrel
      by_cases hlt : i < len0
      · obtain ⟨r, hr⟩ : ∃ r, z0[i]? = some r := ⟨z0[i]'(by rw [HL0.out]; exact hlt), by simp [HL0.out, hlt]⟩
        obtain ⟨b1, p1, rfl, hb1, hcell1⟩ := HS0.out.at_ (k := i) (u := r.val) (by simp [hr])
        have hrow := (HM0.out r (List.mem_of_getElem? hr)).see.below hj.out.below (Nat.le_refl _)
        have m1 := (hj.out.below.cell (p := ⟨b1, p1 + i, none⟩) hb1).trans hcell1
        obtain ⟨A, c, zs⟩ := r
        unfold RowN.val at m1
        simp only at m1 hrow
        obtain ⟨n, hn⟩ : ∃ n, zs.length = n := ⟨_, rfl⟩
        rw [hn] at m1
        have i0 : (0 : Int) ≤ (i : Int) := by omega
        have i1 : (i : Int) < (len0 : Int) := by omega
        clear hr hcell1
        by_cases hlong : 100 < n
        · have g2 : (100 : Int) < (n : Int) := by omega
          clear hn
          go_wp2
          go_ret
          exact ⟨rfl, hj.out.below⟩
        · have g2 : ¬ (100 : Int) < (n : Int) := by omega
          have hrow' := hrow.more hj.out.below.size
          have HSM := Lib.hid (fun W (hW : W = wr) => sum_any zs A n c W hn (by omega) (hW ▸ hrow'))
          have HTK := Lib.hid (tick_any zs A n c w1.heap.size l h i wr hn (by omega) hrow' (hj.out.bx 0 rfl) (by omega))
          unfold cells at HTK
          clear hrow hrow' hn
          generalize dv zs = d at *
          obtain ⟨m, hm⟩ : ∃ m, max h d = m := ⟨_, rfl⟩
          rw [hm] at HTK
          have hmax : ∀ W, (Builtin.max_ #[3, 3] 3 #[.int .i64 h, .int .i64 d]).run Try.prog W = .ok (.int .i64 m) W := fun W => by
            rw [run_max_int2]; congr 2; split <;> omega
          have e3 : IntKind.i64.wrap ((i : Int) + 1) = (i : Int) + 1 := IntWalk.i64_in _ (by omega)
          have e4 : ((i : Int) + 1 == (i : Int) + 1) = true := by simp
          have e5 : (d == d) = true := by simp
          have e6 : (m == m) = true := by simp
          clear hm
          go_wp2_with (first
            | (go_at_call 8; refine (HSM.out _ rfl).mono ?_; rintro e w' ⟨rfl, rfl⟩)
            | (go_at_call 9; refine HTK.out.mono ?_; clear HTK; rintro e w3 ⟨rfl, h3⟩; have hj3 := Lib.hid (j_tick hj.out hX (fun x hx => by cases hx) h3); clear h3; obtain ⟨c0, c1, c2⟩ := (hj3.out.bx 0 rfl).c3)
            | (go_at_call 10; refine (last_any _ d _ c0).mono ?_; rintro e w' ⟨rfl, rfl⟩)
            | (go_at_call 11; refine (high_any _ m _ c1).mono ?_; rintro e w' ⟨rfl, rfl⟩)
            | (go_at_call 12; refine (ticks_any _ ((i : Int) + 1) _ c2).mono ?_; rintro e w' ⟨rfl, rfl⟩))
          go_roundw
          case rel => exact ⟨i + 1, d, m, rfl, by go_num, by omega, hj3⟩
          case measure => simp [intOf]; omega
      · obtain rfl : i = len0 := by omega
        go_wp2_with (first
          | (go_at_call 9; refine (tick_nil _ _).mono ?_; rintro e w' ⟨rfl, rfl⟩)
          | (go_at_call 10; refine (last_nil _).mono ?_; rintro e w' ⟨rfl, rfl⟩)
          | (go_at_call 11; refine (high_nil _).mono ?_; rintro e w' ⟨rfl, rfl⟩)
          | (go_at_call 12; refine (ticks_nil _).mono ?_; rintro e w' ⟨rfl, rfl⟩))
        go_ret
        exact ⟨rfl, (hj.out.alloc _).below⟩

end Go.Proofs.Ytnojenokeggpoaa.Walk
