/- Contracts of the simple demands, of conf.demands and conf.Check. -/
import Derived.Test.YtkicijgempccfaaConF
import Derived.Laws.EntriesVeiled
namespace Go.Proofs.Ytkicijgempccfaa.Con
open Go.RowKit Go.Proofs.Ytkicijgempccfaa.RatP Go.Proofs.Ytkicijgempccfaa.SatP Go.Proofs.Ytkicijgempccfaa.ConP Go.Proofs.Ytkicijgempccfaa.Rat
set_option linter.unusedVariables false

theorem d3_any (v : V) (w : World) : Calls Try.prog 42 #[v.val] w (Says w (.bool (dm v.c 2))) := by
  have HW := Lib.hid (fun W => within_any v.c.floors 2 32 W)
  obtain ⟨A, cb, O, co, ⟨banks, floors, home, order, speed, width, dwell, good, dead, lag, turn, cost, full⟩⟩ := v
  simp only [V.val, dm] at *
  generalize wi floors 2 32 = p at *
  go_enter Try.func42, Try.ntmps42
  go_wp2_with (go_at_call 39; refine (HW.out _).mono ?_; rintro e w' ⟨rfl, rfl⟩)
  go_ret
  exact ⟨rfl, says_box⟩
theorem d6_any (v : V) (w : World) : Calls Try.prog 46 #[v.val] w (Says w (.bool (dm v.c 5))) := by
  have HW := Lib.hid (fun W => within_any v.c.speed 1 8 W)
  obtain ⟨A, cb, O, co, ⟨banks, floors, home, order, speed, width, dwell, good, dead, lag, turn, cost, full⟩⟩ := v
  simp only [V.val, dm] at *
  generalize wi speed 1 8 = p at *
  go_enter Try.func46, Try.ntmps46
  go_wp2_with (go_at_call 39; refine (HW.out _).mono ?_; rintro e w' ⟨rfl, rfl⟩)
  go_ret
  exact ⟨rfl, says_box⟩
theorem d7_any (v : V) (w : World) : Calls Try.prog 47 #[v.val] w (Says w (.bool (dm v.c 6))) := by
  have HW := Lib.hid (fun W => within_any v.c.width 1 16 W)
  obtain ⟨A, cb, O, co, ⟨banks, floors, home, order, speed, width, dwell, good, dead, lag, turn, cost, full⟩⟩ := v
  simp only [V.val, dm] at *
  generalize wi width 1 16 = p at *
  go_enter Try.func47, Try.ntmps47
  go_wp2_with (go_at_call 39; refine (HW.out _).mono ?_; rintro e w' ⟨rfl, rfl⟩)
  go_ret
  exact ⟨rfl, says_box⟩
theorem d8_any (v : V) (w : World) : Calls Try.prog 48 #[v.val] w (Says w (.bool (dm v.c 7))) := by
  have HW := Lib.hid (fun W => within_any v.c.dwell 1 200 W)
  obtain ⟨A, cb, O, co, ⟨banks, floors, home, order, speed, width, dwell, good, dead, lag, turn, cost, full⟩⟩ := v
  simp only [V.val, dm] at *
  generalize wi dwell 1 200 = p at *
  go_enter Try.func48, Try.ntmps48
  go_wp2_with (go_at_call 39; refine (HW.out _).mono ?_; rintro e w' ⟨rfl, rfl⟩)
  go_ret
  exact ⟨rfl, says_box⟩
theorem d9_any (v : V) (w : World) : Calls Try.prog 49 #[v.val] w (Says w (.bool (dm v.c 8))) := by
  have HW := Lib.hid (fun W => within_any v.c.good 1 200 W)
  obtain ⟨A, cb, O, co, ⟨banks, floors, home, order, speed, width, dwell, good, dead, lag, turn, cost, full⟩⟩ := v
  simp only [V.val, dm] at *
  generalize wi good 1 200 = p at *
  go_enter Try.func49, Try.ntmps49
  go_wp2_with (go_at_call 39; refine (HW.out _).mono ?_; rintro e w' ⟨rfl, rfl⟩)
  go_ret
  exact ⟨rfl, says_box⟩
theorem d10_any (v : V) (w : World) : Calls Try.prog 50 #[v.val] w (Says w (.bool (dm v.c 9))) := by
  have HW := Lib.hid (fun W => within_any v.c.dead 1 200 W)
  obtain ⟨A, cb, O, co, ⟨banks, floors, home, order, speed, width, dwell, good, dead, lag, turn, cost, full⟩⟩ := v
  simp only [V.val, dm] at *
  generalize wi dead 1 200 = p at *
  go_enter Try.func50, Try.ntmps50
  go_wp2_with (go_at_call 39; refine (HW.out _).mono ?_; rintro e w' ⟨rfl, rfl⟩)
  go_ret
  exact ⟨rfl, says_box⟩
theorem d11_any (v : V) (w : World) : Calls Try.prog 51 #[v.val] w (Says w (.bool (dm v.c 10))) := by
  have HW := Lib.hid (fun W => within_any v.c.turn 1 200 W)
  obtain ⟨A, cb, O, co, ⟨banks, floors, home, order, speed, width, dwell, good, dead, lag, turn, cost, full⟩⟩ := v
  simp only [V.val, dm] at *
  generalize wi turn 1 200 = p at *
  go_enter Try.func51, Try.ntmps51
  go_wp2_with (go_at_call 39; refine (HW.out _).mono ?_; rintro e w' ⟨rfl, rfl⟩)
  go_ret
  exact ⟨rfl, says_box⟩
theorem d12_any (v : V) (w : World) : Calls Try.prog 52 #[v.val] w (Says w (.bool (dm v.c 11))) := by
  have HW := Lib.hid (fun W => within_any v.c.lag 0 8 W)
  obtain ⟨A, cb, O, co, ⟨banks, floors, home, order, speed, width, dwell, good, dead, lag, turn, cost, full⟩⟩ := v
  simp only [V.val, dm] at *
  generalize wi lag 0 8 = p at *
  go_enter Try.func52, Try.ntmps52
  go_wp2_with (go_at_call 39; refine (HW.out _).mono ?_; rintro e w' ⟨rfl, rfl⟩)
  go_ret
  exact ⟨rfl, says_box⟩
theorem d13_any (v : V) (w : World) : Calls Try.prog 53 #[v.val] w (Says w (.bool (dm v.c 12))) := by
  have HW := Lib.hid (fun W => within_any v.c.cost 0 100 W)
  obtain ⟨A, cb, O, co, ⟨banks, floors, home, order, speed, width, dwell, good, dead, lag, turn, cost, full⟩⟩ := v
  simp only [V.val, dm] at *
  generalize wi cost 0 100 = p at *
  go_enter Try.func53, Try.ntmps53
  go_wp2_with (go_at_call 39; refine (HW.out _).mono ?_; rintro e w' ⟨rfl, rfl⟩)
  go_ret
  exact ⟨rfl, says_box⟩
theorem d14_any (v : V) (w : World) : Calls Try.prog 54 #[v.val] w (Says w (.bool (dm v.c 13))) := by
  have HW := Lib.hid (fun W => within_any v.c.full 0 1048576 W)
  obtain ⟨A, cb, O, co, ⟨banks, floors, home, order, speed, width, dwell, good, dead, lag, turn, cost, full⟩⟩ := v
  simp only [V.val, dm] at *
  generalize wi full 0 1048576 = p at *
  go_enter Try.func54, Try.ntmps54
  go_wp2_with (go_at_call 39; refine (HW.out _).mono ?_; rintro e w' ⟨rfl, rfl⟩)
  go_ret
  exact ⟨rfl, says_box⟩

/-- what each one of them answers -/
theorem dem_any (v : V) (hn : v.c.banks.length ≤ 1000) (hno : v.c.order.length ≤ 1000) (w : World) (hin : V.In w v) (k : Nat) (hk : k < 14) (hd : ∀ j, j < k → dm v.c j = true) : Calls Try.prog (fnOf k) #[v.val] w (Says w (.bool (dm v.c k))) := by
  match k, hk with
  | 0, _ => exact d1_any v w
  | 1, _ => exact d2_any v hn w hin
  | 2, _ => exact d3_any v w
  | 3, _ => exact d4_any v (wi_iff.1 (hd 2 (by decide))).1 (wi_iff.1 (hd 2 (by decide))).2 w
  | 4, _ => exact d5_any v (List.all_eq_true.1 (hd 1 (by decide))) (by have := wi_iff.1 (hd 0 (by decide)); omega) hno w hin
  | 5, _ => exact d6_any v w
  | 6, _ => exact d7_any v w
  | 7, _ => exact d8_any v w
  | 8, _ => exact d9_any v w
  | 9, _ => exact d10_any v w
  | 10, _ => exact d11_any v w
  | 11, _ => exact d12_any v w
  | 12, _ => exact d13_any v w
  | 13, _ => exact d14_any v w
  | n + 14, h => exact absurd h (by omega)

def demArr : Array Value := #[.func (.func 38) #[] #[], .func (.func 40) #[] #[], .func (.func 42) #[] #[], .func (.func 43) #[] #[], .func (.func 44) #[] #[], .func (.func 46) #[] #[], .func (.func 47) #[] #[], .func (.func 48) #[] #[], .func (.func 49) #[] #[], .func (.func 50) #[] #[], .func (.func 51) #[] #[], .func (.func 52) #[] #[], .func (.func 53) #[] #[], .func (.func 54) #[] #[]]
theorem demands_any (w : World) : Calls Try.prog 28 #[] w fun e w' => e = .returned (.slice (some ⟨w.heap.size, 0, none⟩) 14 14) ∧ w.alloc (.cells demArr 50) = w' := by
  unfold demArr
  go_enter Try.func28, Try.ntmps28
  go_wp2
  go_ret
  exact ⟨rfl, rfl⟩
theorem dem_at (w : World) (k : Nat) (hk : k < 14) : (w.alloc (.cells demArr 50)).cell? ⟨w.heap.size, k, none⟩ = some (.func (.func (fnOf k)) #[] #[]) := by
  match k, hk with
  | 0, _ => simp [demArr, fnOf]
  | 1, _ => simp [demArr, fnOf]
  | 2, _ => simp [demArr, fnOf]
  | 3, _ => simp [demArr, fnOf]
  | 4, _ => simp [demArr, fnOf]
  | 5, _ => simp [demArr, fnOf]
  | 6, _ => simp [demArr, fnOf]
  | 7, _ => simp [demArr, fnOf]
  | 8, _ => simp [demArr, fnOf]
  | 9, _ => simp [demArr, fnOf]
  | 10, _ => simp [demArr, fnOf]
  | 11, _ => simp [demArr, fnOf]
  | 12, _ => simp [demArr, fnOf]
  | 13, _ => simp [demArr, fnOf]
  | n + 14, h => exact absurd h (by omega)

set_option maxRecDepth 100000 in
set_option maxHeartbeats 8000000 in
theorem Check_conf (v : V) (hn : v.c.banks.length ≤ 1000) (hno : v.c.order.length ≤ 1000) (w : World) (hin : V.In w v) : Calls Try.prog 11 #[v.val] w (Says w (.bool (mayC v.c))) := by
  have HD := Lib.hid (fun W h k => dem_any v hn hno W h k)
  have HX : Hid (CBox ((w.alloc (.cells v.arr 25)).alloc (.cells demArr 50)) w.heap.size v) := Lib.hid ((CBox.new w v _).next says_box)
  have HI : Hid (V.In ((w.alloc (.cells v.arr 25)).alloc (.cells demArr 50)) v) := Lib.hid ((hin.box _).box _)
  have HA := Lib.hid (fun W (h : CBox W w.heap.size v) => h.all)
  have HM : Hid (∀ k, k < 14 → dm v.c k = false → mayC v.c = false) := Lib.hid (fun k hk h => by
    cases hm : mayC v.c
    · rfl
    · have := (May_iff v.c).1 ((mayC_iff v.c).1 hm) k hk
      rw [h] at this; cases this)
  have HY : Hid ((∀ k, k < 14 → dm v.c k = true) → mayC v.c = true) := Lib.hid (fun h => (mayC_iff v.c).2 ((May_iff v.c).2 h))
  have HB : Hid (Below w.heap.size w ((w.alloc (.cells v.arr 25)).alloc (.cells demArr 50))) := Lib.hid (below_mono says_box says_box)
  have HDA : Hid (∀ k, k < 14 → ((w.alloc (.cells v.arr 25)).alloc (.cells demArr 50)).cell? ⟨w.heap.size + 1, k, none⟩ = some (.func (.func (fnOf k)) #[] #[])) := Lib.hid (fun k hk => by
    have := dem_at (w.alloc (.cells v.arr 25)) k hk
    rwa [World.size_alloc] at this)
  have HDM := Lib.hid (fun W => demands_any W)
  have HSZ : Hid (((w.alloc (.cells v.arr 25)).alloc (.cells demArr 50)).heap.size = w.heap.size + 2) := Lib.hid (by simp)
  clear hin hn hno
  obtain ⟨A, cb, O, co, ⟨banks, floors, home, order, speed, width, dwell, good, dead, lag, turn, cost, full⟩⟩ := v
  simp only [V.val, V.arr] at *
  generalize hp : dm ⟨banks, floors, home, order, speed, width, dwell, good, dead, lag, turn, cost, full⟩ = p at *
  clear hp
  generalize mayC ⟨banks, floors, home, order, speed, width, dwell, good, dead, lag, turn, cost, full⟩ = q at *
  go_enter Try.func11, Try.ntmps11
  go_wp2_with (go_at_call 28; refine (HDM.out _).mono ?_; rintro e w' ⟨rfl, rfl⟩)
  generalize hW1 : (World.alloc (World.alloc w _) _) = W1 at *
  clear hW1
  go_loopw [7] (fun i wr => ∃ k : Nat, k ≤ 14 ∧ i = .int .i64 k ∧ (∀ j, j < k → p j = true) ∧ Below W1.heap.size W1 wr) (fun i _ => 14 - (intOf i).toNat)
  case atStart => exact ⟨0, by omega, rfl, fun j h => absurd h (by omega), Below.refl _ _⟩
  case round =>
    obtain ⟨k, hk, rfl, hall, hbl⟩ := hrel
    have HAL := Lib.hid hall
    clear hall
    obtain ⟨a0, a1, a2, a3, a4, a5, a6, a7, a8, a9, a10, a11, a12⟩ := HA.out _ (HX.out.next hbl)
    have HIN := Lib.hid ((HI.out.next hbl).box (.cells #[.func (.func (fnOf k)) #[] #[]] 50))
    have hsz0 : w.heap.size + 1 < W1.heap.size := by have := HSZ.out; omega
    have hlt : w.heap.size < wr.heap.size := by have := HSZ.out; have := hbl.size; omega
    rcases (show k = 0 ∨ k = 1 ∨ k = 2 ∨ k = 3 ∨ k = 4 ∨ k = 5 ∨ k = 6 ∨ k = 7 ∨ k = 8 ∨ k = 9 ∨ k = 10 ∨ k = 11 ∨ k = 12 ∨ k = 13 ∨ k = 14 by omega) with rfl | rfl | rfl | rfl | rfl | rfl | rfl | rfl | rfl | rfl | rfl | rfl | rfl | rfl | rfl

    · have hc := (hbl.cell (p := ⟨w.heap.size + 1, 0, none⟩) hsz0).trans (HDA.out 0 (by decide))
      have HC := Lib.hid (HD.out _ HIN.out 0 (by decide) HAL.out)
      simp only [fnOf] at hc HC
      cases hpk : p 0
      · rw [hpk] at HC
        have E := Lib.hid (HM.out 0 (by decide) hpk)
        clear hpk
        go_wp2_with (go_at_call 38; refine HC.out.mono ?_; rintro e w1 ⟨rfl, b1⟩)
        go_ret
        exact ⟨by rw [E.out]; rfl, below_mono HB.out (below_mono hbl (below_mono says_box b1))⟩
      · rw [hpk] at HC
        have E := Lib.hid hpk
        clear hpk
        go_wp2_with (go_at_call 38; refine HC.out.mono ?_; rintro e w1 ⟨rfl, b1⟩)
        go_roundw
        case rel => exact ⟨1, by omega, by go_num, fun j hj => if h : j < 0 then HAL.out j h else (show j = 0 by omega) ▸ E.out, below_mono hbl (below_mono says_box b1)⟩
        case measure => simp [intOf]
    · have hc := (hbl.cell (p := ⟨w.heap.size + 1, 1, none⟩) hsz0).trans (HDA.out 1 (by decide))
      have HC := Lib.hid (HD.out _ HIN.out 1 (by decide) HAL.out)
      simp only [fnOf] at hc HC
      cases hpk : p 1
      · rw [hpk] at HC
        have E := Lib.hid (HM.out 1 (by decide) hpk)
        clear hpk
        go_wp2_with (go_at_call 40; refine HC.out.mono ?_; rintro e w1 ⟨rfl, b1⟩)
        go_ret
        exact ⟨by rw [E.out]; rfl, below_mono HB.out (below_mono hbl (below_mono says_box b1))⟩
      · rw [hpk] at HC
        have E := Lib.hid hpk
        clear hpk
        go_wp2_with (go_at_call 40; refine HC.out.mono ?_; rintro e w1 ⟨rfl, b1⟩)
        go_roundw
        case rel => exact ⟨2, by omega, by go_num, fun j hj => if h : j < 1 then HAL.out j h else (show j = 1 by omega) ▸ E.out, below_mono hbl (below_mono says_box b1)⟩
        case measure => simp [intOf]
    · have hc := (hbl.cell (p := ⟨w.heap.size + 1, 2, none⟩) hsz0).trans (HDA.out 2 (by decide))
      have HC := Lib.hid (HD.out _ HIN.out 2 (by decide) HAL.out)
      simp only [fnOf] at hc HC
      cases hpk : p 2
      · rw [hpk] at HC
        have E := Lib.hid (HM.out 2 (by decide) hpk)
        clear hpk
        go_wp2_with (go_at_call 42; refine HC.out.mono ?_; rintro e w1 ⟨rfl, b1⟩)
        go_ret
        exact ⟨by rw [E.out]; rfl, below_mono HB.out (below_mono hbl (below_mono says_box b1))⟩
      · rw [hpk] at HC
        have E := Lib.hid hpk
        clear hpk
        go_wp2_with (go_at_call 42; refine HC.out.mono ?_; rintro e w1 ⟨rfl, b1⟩)
        go_roundw
        case rel => exact ⟨3, by omega, by go_num, fun j hj => if h : j < 2 then HAL.out j h else (show j = 2 by omega) ▸ E.out, below_mono hbl (below_mono says_box b1)⟩
        case measure => simp [intOf]
    · have hc := (hbl.cell (p := ⟨w.heap.size + 1, 3, none⟩) hsz0).trans (HDA.out 3 (by decide))
      have HC := Lib.hid (HD.out _ HIN.out 3 (by decide) HAL.out)
      simp only [fnOf] at hc HC
      cases hpk : p 3
      · rw [hpk] at HC
        have E := Lib.hid (HM.out 3 (by decide) hpk)
        clear hpk
        go_wp2_with (go_at_call 43; refine HC.out.mono ?_; rintro e w1 ⟨rfl, b1⟩)
        go_ret
        exact ⟨by rw [E.out]; rfl, below_mono HB.out (below_mono hbl (below_mono says_box b1))⟩
      · rw [hpk] at HC
        have E := Lib.hid hpk
        clear hpk
        go_wp2_with (go_at_call 43; refine HC.out.mono ?_; rintro e w1 ⟨rfl, b1⟩)
        go_roundw
        case rel => exact ⟨4, by omega, by go_num, fun j hj => if h : j < 3 then HAL.out j h else (show j = 3 by omega) ▸ E.out, below_mono hbl (below_mono says_box b1)⟩
        case measure => simp [intOf]
    · have hc := (hbl.cell (p := ⟨w.heap.size + 1, 4, none⟩) hsz0).trans (HDA.out 4 (by decide))
      have HC := Lib.hid (HD.out _ HIN.out 4 (by decide) HAL.out)
      simp only [fnOf] at hc HC
      cases hpk : p 4
      · rw [hpk] at HC
        have E := Lib.hid (HM.out 4 (by decide) hpk)
        clear hpk
        go_wp2_with (go_at_call 44; refine HC.out.mono ?_; rintro e w1 ⟨rfl, b1⟩)
        go_ret
        exact ⟨by rw [E.out]; rfl, below_mono HB.out (below_mono hbl (below_mono says_box b1))⟩
      · rw [hpk] at HC
        have E := Lib.hid hpk
        clear hpk
        go_wp2_with (go_at_call 44; refine HC.out.mono ?_; rintro e w1 ⟨rfl, b1⟩)
        go_roundw
        case rel => exact ⟨5, by omega, by go_num, fun j hj => if h : j < 4 then HAL.out j h else (show j = 4 by omega) ▸ E.out, below_mono hbl (below_mono says_box b1)⟩
        case measure => simp [intOf]
    · have hc := (hbl.cell (p := ⟨w.heap.size + 1, 5, none⟩) hsz0).trans (HDA.out 5 (by decide))
      have HC := Lib.hid (HD.out _ HIN.out 5 (by decide) HAL.out)
      simp only [fnOf] at hc HC
      cases hpk : p 5
      · rw [hpk] at HC
        have E := Lib.hid (HM.out 5 (by decide) hpk)
        clear hpk
        go_wp2_with (go_at_call 46; refine HC.out.mono ?_; rintro e w1 ⟨rfl, b1⟩)
        go_ret
        exact ⟨by rw [E.out]; rfl, below_mono HB.out (below_mono hbl (below_mono says_box b1))⟩
      · rw [hpk] at HC
        have E := Lib.hid hpk
        clear hpk
        go_wp2_with (go_at_call 46; refine HC.out.mono ?_; rintro e w1 ⟨rfl, b1⟩)
        go_roundw
        case rel => exact ⟨6, by omega, by go_num, fun j hj => if h : j < 5 then HAL.out j h else (show j = 5 by omega) ▸ E.out, below_mono hbl (below_mono says_box b1)⟩
        case measure => simp [intOf]
    · have hc := (hbl.cell (p := ⟨w.heap.size + 1, 6, none⟩) hsz0).trans (HDA.out 6 (by decide))
      have HC := Lib.hid (HD.out _ HIN.out 6 (by decide) HAL.out)
      simp only [fnOf] at hc HC
      cases hpk : p 6
      · rw [hpk] at HC
        have E := Lib.hid (HM.out 6 (by decide) hpk)
        clear hpk
        go_wp2_with (go_at_call 47; refine HC.out.mono ?_; rintro e w1 ⟨rfl, b1⟩)
        go_ret
        exact ⟨by rw [E.out]; rfl, below_mono HB.out (below_mono hbl (below_mono says_box b1))⟩
      · rw [hpk] at HC
        have E := Lib.hid hpk
        clear hpk
        go_wp2_with (go_at_call 47; refine HC.out.mono ?_; rintro e w1 ⟨rfl, b1⟩)
        go_roundw
        case rel => exact ⟨7, by omega, by go_num, fun j hj => if h : j < 6 then HAL.out j h else (show j = 6 by omega) ▸ E.out, below_mono hbl (below_mono says_box b1)⟩
        case measure => simp [intOf]
    · have hc := (hbl.cell (p := ⟨w.heap.size + 1, 7, none⟩) hsz0).trans (HDA.out 7 (by decide))
      have HC := Lib.hid (HD.out _ HIN.out 7 (by decide) HAL.out)
      simp only [fnOf] at hc HC
      cases hpk : p 7
      · rw [hpk] at HC
        have E := Lib.hid (HM.out 7 (by decide) hpk)
        clear hpk
        go_wp2_with (go_at_call 48; refine HC.out.mono ?_; rintro e w1 ⟨rfl, b1⟩)
        go_ret
        exact ⟨by rw [E.out]; rfl, below_mono HB.out (below_mono hbl (below_mono says_box b1))⟩
      · rw [hpk] at HC
        have E := Lib.hid hpk
        clear hpk
        go_wp2_with (go_at_call 48; refine HC.out.mono ?_; rintro e w1 ⟨rfl, b1⟩)
        go_roundw
        case rel => exact ⟨8, by omega, by go_num, fun j hj => if h : j < 7 then HAL.out j h else (show j = 7 by omega) ▸ E.out, below_mono hbl (below_mono says_box b1)⟩
        case measure => simp [intOf]
    · have hc := (hbl.cell (p := ⟨w.heap.size + 1, 8, none⟩) hsz0).trans (HDA.out 8 (by decide))
      have HC := Lib.hid (HD.out _ HIN.out 8 (by decide) HAL.out)
      simp only [fnOf] at hc HC
      cases hpk : p 8
      · rw [hpk] at HC
        have E := Lib.hid (HM.out 8 (by decide) hpk)
        clear hpk
        go_wp2_with (go_at_call 49; refine HC.out.mono ?_; rintro e w1 ⟨rfl, b1⟩)
        go_ret
        exact ⟨by rw [E.out]; rfl, below_mono HB.out (below_mono hbl (below_mono says_box b1))⟩
      · rw [hpk] at HC
        have E := Lib.hid hpk
        clear hpk
        go_wp2_with (go_at_call 49; refine HC.out.mono ?_; rintro e w1 ⟨rfl, b1⟩)
        go_roundw
        case rel => exact ⟨9, by omega, by go_num, fun j hj => if h : j < 8 then HAL.out j h else (show j = 8 by omega) ▸ E.out, below_mono hbl (below_mono says_box b1)⟩
        case measure => simp [intOf]
    · have hc := (hbl.cell (p := ⟨w.heap.size + 1, 9, none⟩) hsz0).trans (HDA.out 9 (by decide))
      have HC := Lib.hid (HD.out _ HIN.out 9 (by decide) HAL.out)
      simp only [fnOf] at hc HC
      cases hpk : p 9
      · rw [hpk] at HC
        have E := Lib.hid (HM.out 9 (by decide) hpk)
        clear hpk
        go_wp2_with (go_at_call 50; refine HC.out.mono ?_; rintro e w1 ⟨rfl, b1⟩)
        go_ret
        exact ⟨by rw [E.out]; rfl, below_mono HB.out (below_mono hbl (below_mono says_box b1))⟩
      · rw [hpk] at HC
        have E := Lib.hid hpk
        clear hpk
        go_wp2_with (go_at_call 50; refine HC.out.mono ?_; rintro e w1 ⟨rfl, b1⟩)
        go_roundw
        case rel => exact ⟨10, by omega, by go_num, fun j hj => if h : j < 9 then HAL.out j h else (show j = 9 by omega) ▸ E.out, below_mono hbl (below_mono says_box b1)⟩
        case measure => simp [intOf]
    · have hc := (hbl.cell (p := ⟨w.heap.size + 1, 10, none⟩) hsz0).trans (HDA.out 10 (by decide))
      have HC := Lib.hid (HD.out _ HIN.out 10 (by decide) HAL.out)
      simp only [fnOf] at hc HC
      cases hpk : p 10
      · rw [hpk] at HC
        have E := Lib.hid (HM.out 10 (by decide) hpk)
        clear hpk
        go_wp2_with (go_at_call 51; refine HC.out.mono ?_; rintro e w1 ⟨rfl, b1⟩)
        go_ret
        exact ⟨by rw [E.out]; rfl, below_mono HB.out (below_mono hbl (below_mono says_box b1))⟩
      · rw [hpk] at HC
        have E := Lib.hid hpk
        clear hpk
        go_wp2_with (go_at_call 51; refine HC.out.mono ?_; rintro e w1 ⟨rfl, b1⟩)
        go_roundw
        case rel => exact ⟨11, by omega, by go_num, fun j hj => if h : j < 10 then HAL.out j h else (show j = 10 by omega) ▸ E.out, below_mono hbl (below_mono says_box b1)⟩
        case measure => simp [intOf]
    · have hc := (hbl.cell (p := ⟨w.heap.size + 1, 11, none⟩) hsz0).trans (HDA.out 11 (by decide))
      have HC := Lib.hid (HD.out _ HIN.out 11 (by decide) HAL.out)
      simp only [fnOf] at hc HC
      cases hpk : p 11
      · rw [hpk] at HC
        have E := Lib.hid (HM.out 11 (by decide) hpk)
        clear hpk
        go_wp2_with (go_at_call 52; refine HC.out.mono ?_; rintro e w1 ⟨rfl, b1⟩)
        go_ret
        exact ⟨by rw [E.out]; rfl, below_mono HB.out (below_mono hbl (below_mono says_box b1))⟩
      · rw [hpk] at HC
        have E := Lib.hid hpk
        clear hpk
        go_wp2_with (go_at_call 52; refine HC.out.mono ?_; rintro e w1 ⟨rfl, b1⟩)
        go_roundw
        case rel => exact ⟨12, by omega, by go_num, fun j hj => if h : j < 11 then HAL.out j h else (show j = 11 by omega) ▸ E.out, below_mono hbl (below_mono says_box b1)⟩
        case measure => simp [intOf]
    · have hc := (hbl.cell (p := ⟨w.heap.size + 1, 12, none⟩) hsz0).trans (HDA.out 12 (by decide))
      have HC := Lib.hid (HD.out _ HIN.out 12 (by decide) HAL.out)
      simp only [fnOf] at hc HC
      cases hpk : p 12
      · rw [hpk] at HC
        have E := Lib.hid (HM.out 12 (by decide) hpk)
        clear hpk
        go_wp2_with (go_at_call 53; refine HC.out.mono ?_; rintro e w1 ⟨rfl, b1⟩)
        go_ret
        exact ⟨by rw [E.out]; rfl, below_mono HB.out (below_mono hbl (below_mono says_box b1))⟩
      · rw [hpk] at HC
        have E := Lib.hid hpk
        clear hpk
        go_wp2_with (go_at_call 53; refine HC.out.mono ?_; rintro e w1 ⟨rfl, b1⟩)
        go_roundw
        case rel => exact ⟨13, by omega, by go_num, fun j hj => if h : j < 12 then HAL.out j h else (show j = 12 by omega) ▸ E.out, below_mono hbl (below_mono says_box b1)⟩
        case measure => simp [intOf]
    · have hc := (hbl.cell (p := ⟨w.heap.size + 1, 13, none⟩) hsz0).trans (HDA.out 13 (by decide))
      have HC := Lib.hid (HD.out _ HIN.out 13 (by decide) HAL.out)
      simp only [fnOf] at hc HC
      cases hpk : p 13
      · rw [hpk] at HC
        have E := Lib.hid (HM.out 13 (by decide) hpk)
        clear hpk
        go_wp2_with (go_at_call 54; refine HC.out.mono ?_; rintro e w1 ⟨rfl, b1⟩)
        go_ret
        exact ⟨by rw [E.out]; rfl, below_mono HB.out (below_mono hbl (below_mono says_box b1))⟩
      · rw [hpk] at HC
        have E := Lib.hid hpk
        clear hpk
        go_wp2_with (go_at_call 54; refine HC.out.mono ?_; rintro e w1 ⟨rfl, b1⟩)
        go_roundw
        case rel => exact ⟨14, by omega, by go_num, fun j hj => if h : j < 13 then HAL.out j h else (show j = 13 by omega) ▸ E.out, below_mono hbl (below_mono says_box b1)⟩
        case measure => simp [intOf]
    · have E := Lib.hid (HY.out (fun j hj => HAL.out j hj))
      go_wp2
      go_ret
      exact ⟨by rw [E.out]; rfl, below_mono HB.out hbl⟩

end Go.Proofs.Ytkicijgempccfaa.Con
