/- The contract of the document's own Check, a part of the last numbers' cases. -/
import Derived.Test.YtkicijgempccfaaConSa
namespace Go.Proofs.Ytkicijgempccfaa.Con
open Go.RowKit Go.Proofs.Ytkicijgempccfaa.RatP Go.Proofs.Ytkicijgempccfaa.SatP Go.Proofs.Ytkicijgempccfaa.ConP Go.Proofs.Ytkicijgempccfaa.Rat
set_option linter.unusedVariables false

def Last2 (c : C) : Prop := (0 < c.speed ∧ c.speed < 9 ∧ 0 < c.width ∧ c.width < 17 ∧ wi c.dwell 1 200 = false) ∨ (0 < c.speed ∧ c.speed < 9 ∧ 0 < c.width ∧ c.width < 17 ∧ wi c.dwell 1 200 = true ∧ wi c.good 1 200 = false) ∨ (0 < c.speed ∧ c.speed < 9 ∧ 0 < c.width ∧ c.width < 17 ∧ wi c.dwell 1 200 = true ∧ wi c.good 1 200 = true ∧ wi c.dead 1 200 = false) ∨ (0 < c.speed ∧ c.speed < 9 ∧ 0 < c.width ∧ c.width < 17 ∧ wi c.dwell 1 200 = true ∧ wi c.good 1 200 = true ∧ wi c.dead 1 200 = true ∧ wi c.turn 1 200 = false)

set_option maxRecDepth 100000 in
set_option maxHeartbeats 16000000 in
theorem refCheck_2 (v : V) (hn : v.c.banks.length ≤ 1000) (hno : v.c.order.length ≤ 1000) (w : World) (hin : V.In w v) (hF : Last2 v.c) : Calls Try.prog 12 #[v.val] w (Says w (.bool (mayC v.c))) := by
  have HM : Hid (∀ k, k < 14 → dm v.c k = false → mayC v.c = false) := Lib.hid (fun k hk h => by
    cases hm : mayC v.c
    · rfl
    · have := (May_iff v.c).1 ((mayC_iff v.c).1 hm) k hk
      rw [h] at this; cases this)
  have HY : Hid ((∀ k, k < 14 → dm v.c k = true) → mayC v.c = true) := Lib.hid (fun h => (mayC_iff v.c).2 ((May_iff v.c).2 h))
  have HX : Hid (∀ W, Below (w.alloc (.cells v.arr 31)).heap.size (w.alloc (.cells v.arr 31)) W → CBox W w.heap.size v) := Lib.hid fun W h => (CBox.new w v _).next h
  have HS : Hid (∀ W, Below (w.alloc (.cells v.arr 31)).heap.size (w.alloc (.cells v.arr 31)) W → V.In W v) := Lib.hid fun W h => (hin.box _).next h
  have HB0 : Hid (Below w.heap.size w (w.alloc (.cells v.arr 31))) := Lib.hid says_box
  unfold Last2 at hF
  have HF := Lib.hid hF
  have HSI := Lib.hid hin
  have HSZ : Hid ((w.alloc (.cells v.arr 31)).heap.size = w.heap.size + 1) := Lib.hid (by simp)
  clear hin hF
  obtain ⟨A, cb, O, co, ⟨banks, floors, home, order, speed, width, dwell, good, dead, lag, turn, cost, full⟩⟩ := v
  simp only [V.val, V.arr] at *
  obtain ⟨nb, hnb⟩ : ∃ n, banks.length = n := ⟨_, rfl⟩
  obtain ⟨no, hno'⟩ : ∃ n, order.length = n := ⟨_, rfl⟩
  have HN := Lib.hid hnb
  have HO := Lib.hid hno'
  rw [hnb] at hn
  rw [hno'] at hno
  rw [hnb, hno'] at HX HS HB0 HSZ ⊢
  have HXA : Hid (∀ W, Below (w.alloc (.cells #[.slice A nb cb, .int .i64 floors, .int .i64 home, .slice O no co, .int .i64 speed, .int .i64 width, .int .i64 dwell, .int .i64 good, .int .i64 dead, .int .i64 lag, .int .i64 turn, .int .i64 cost, .int .i64 full] 31)).heap.size (w.alloc (.cells #[.slice A nb cb, .int .i64 floors, .int .i64 home, .slice O no co, .int .i64 speed, .int .i64 width, .int .i64 dwell, .int .i64 good, .int .i64 dead, .int .i64 lag, .int .i64 turn, .int .i64 cost, .int .i64 full] 31)) W → W.cell? ⟨w.heap.size, 0, none⟩ = some (.slice A nb cb) ∧ W.cell? ⟨w.heap.size, 3, none⟩ = some (.slice O no co)) := Lib.hid fun W h => by
    have := (HX.out W h)
    have h0 := this.c0
    have h3 := this.c3
    simp only at h0 h3
    rw [hnb] at h0
    rw [hno'] at h3
    exact ⟨h0, h3⟩
  clear hnb hno'
  have HD : Hid (∀ k, dm ⟨banks, floors, home, order, speed, width, dwell, good, dead, lag, turn, cost, full⟩ k = match k with
    | 0 => wi nb 1 8 | 1 => banks.all bOk | 2 => wi floors 2 32 | 3 => wi home 0 (floors - 1) | 4 => decide (once order (cars banks)) | 5 => wi speed 1 8 | 6 => wi width 1 16 | 7 => wi dwell 1 200 | 8 => wi good 1 200 | 9 => wi dead 1 200 | 10 => wi turn 1 200 | 11 => wi lag 0 8 | 12 => wi cost 0 100 | 13 => wi full 0 1048576 | _ => true) := Lib.hid fun k => by
      match k with
      | 0 => simp only [dm, HN.out]
      | 1 => rfl
      | 2 => rfl
      | 3 => rfl
      | 4 => rfl
      | 5 => rfl
      | 6 => rfl
      | 7 => rfl
      | 8 => rfl
      | 9 => rfl
      | 10 => rfl
      | 11 => rfl
      | 12 => rfl
      | 13 => rfl
      | n + 14 => rfl
  generalize mayC ⟨banks, floors, home, order, speed, width, dwell, good, dead, lag, turn, cost, full⟩ = q at *
  generalize dm ⟨banks, floors, home, order, speed, width, dwell, good, dead, lag, turn, cost, full⟩ = p at *
  have NO : ∀ k, k < 14 → p k = false → q = false := HM.out
  have HNO := Lib.hid NO
  clear NO
  rcases (show nb = 0 ∨ 8 < nb ∨ (1 ≤ nb ∧ nb ≤ 8) by omega) with rfl | h8 | ⟨h1, h8⟩
  · have E := Lib.hid (HNO.out 0 (by decide) (by rw [HD.out 0]; rfl))
    go_enter Try.func12, Try.ntmps12
    go_wp2
    go_ret
    exact ⟨by rw [E.out]; rfl, HB0.out⟩
  · have E := Lib.hid (HNO.out 0 (by decide) (by rw [HD.out 0]; exact wi_no.2 (.inr (by omega))))
    have i1 : ¬ (nb : Int) < 1 := by omega
    have i2 : (8 : Int) < (nb : Int) := by omega
    go_enter Try.func12, Try.ntmps12
    go_wp2
    go_ret
    exact ⟨by rw [E.out]; rfl, HB0.out⟩
  have i1 : decide ((nb : Int) < 1) = false := by simp; omega
  have i2 : decide ((8 : Int) < (nb : Int)) = false := by simp; omega
  go_enter Try.func12, Try.ntmps12
  go_wp2
  clear i1 i2
  generalize hW1 : (World.alloc w _) = W1 at *
  clear hW1
  go_loopw [3, 4] (fun n i wr => ∃ k : Nat, k ≤ nb ∧ i = .int .i64 k ∧ n = .int .i64 (cars (banks.take k)) ∧ (∀ b ∈ banks.take k, bOk b = true) ∧ Below W1.heap.size W1 wr) (fun _ i _ => nb - (intOf i).toNat)
  case atStart => exact ⟨0, Nat.zero_le _, rfl, rfl, by simp, Below.refl _ _⟩
  case round =>
    obtain ⟨k, hk, rfl, rfl, hall, hbl⟩ := hrel
    have HAL := Lib.hid hall
    have HBL := Lib.hid hbl
    clear hall
    obtain ⟨a0, a3⟩ := HXA.out wr hbl
    by_cases hlt : k < nb
    · obtain ⟨x, hx⟩ := at_bank banks k (by rw [HN.out]; exact hlt)
      obtain ⟨b, o, rfl, hbB, hc0⟩ := sees_bank HSI.out.bs hx
      have hc := (hc0.next HB0.out hbB).next hbl (by have := HSZ.out; omega)
      obtain ⟨c0, c1, c2, c3, c4, c5, c6⟩ := hc
      have ht := cars_take_succ banks k x hx
      have h1 := cars_bd _ HAL.out
      have h2 : (banks.take k).length ≤ 8 := Nat.le_trans (List.length_take_le _ _) (by omega)
      have HNB := Lib.hid (all_no banks k x hx)
      have HAN : Hid (bOk x = true → ∀ b ∈ banks.take (k + 1), bOk b = true) := Lib.hid fun hb y hy => by
        rw [List.take_add_one, hx] at hy
        rcases List.mem_append.1 hy with h | h
        · exact HAL.out y h
        · simp at h; subst h; exact hb
      have HC := Lib.hid (fun W => refRates_any x.r W)
      have hbok : bOk x = (wi x.cars 1 8 && rOk x.r) := rfl
      have HBO := Lib.hid hbok
      obtain ⟨xc, ⟨xi, xm, xg, xp, xd, xw⟩⟩ := x
      unfold val at HC
      simp only at *
      have s0 : 0 ≤ cars (banks.take k) := by omega
      have s1 : cars (banks.take k) ≤ 64 := by omega
      generalize rOk ⟨xi, xm, xg, xp, xd, xw⟩ = rq at *
      generalize cars (banks.take k) = s at *
      generalize hT : cars (banks.take (k + 1)) = t at *
      have HTT := Lib.hid (hT.trans ht)
      have rk0 : (0 : Int) ≤ (k : Int) := by omega
      have rk1 : (k : Int) < (nb : Int) := by omega
      clear hT ht hc0 h1 h2 hx hbok hbl
      rcases (show xc < 1 ∨ (¬ xc < 1 ∧ 8 < xc) ∨ (¬ xc < 1 ∧ ¬ 8 < xc ∧ rq = false) ∨ (¬ xc < 1 ∧ ¬ 8 < xc ∧ rq = true) by cases rq <;> simp <;> omega) with t1 | ⟨t1, t2⟩ | ⟨t1, t2, rfl⟩ | ⟨t1, t2, rfl⟩
      · have E := Lib.hid (HNO.out 1 (by decide) (by rw [HD.out 1]; exact HNB.out (by rw [HBO.out, wi_no.2 (.inl (by omega))]; rfl)))
        go_wp2_with (go_at_call 29; refine (HC.out _).mono ?_; rintro e w1 ⟨rfl, b1⟩; obtain ⟨a0', a3'⟩ := HXA.out w1 (below_mono HBL.out b1); have c0' := (b1.cell (p := ⟨_, _, none⟩) (World.block_lt_of_cell? _ _ c0)).trans c0)
        go_ret
        exact ⟨by rw [E.out]; rfl, below_mono HB0.out (below_mono HBL.out b1)⟩
      · have E := Lib.hid (HNO.out 1 (by decide) (by rw [HD.out 1]; exact HNB.out (by rw [HBO.out, wi_no.2 (.inr (by omega))]; rfl)))
        go_wp2_with (go_at_call 29; refine (HC.out _).mono ?_; rintro e w1 ⟨rfl, b1⟩; obtain ⟨a0', a3'⟩ := HXA.out w1 (below_mono HBL.out b1); have c0' := (b1.cell (p := ⟨_, _, none⟩) (World.block_lt_of_cell? _ _ c0)).trans c0)
        go_ret
        exact ⟨by rw [E.out]; rfl, below_mono HB0.out (below_mono HBL.out b1)⟩
      · have E := Lib.hid (HNO.out 1 (by decide) (by rw [HD.out 1]; exact HNB.out (by rw [HBO.out]; simp)))
        have d1 : decide (xc < 1) = false := by simpa using t1
        have d2 : decide (8 < xc) = false := by simpa using t2
        clear t1 t2
        go_wp2_with (go_at_call 29; refine (HC.out _).mono ?_; rintro e w1 ⟨rfl, b1⟩; obtain ⟨a0', a3'⟩ := HXA.out w1 (below_mono HBL.out b1); have c0' := (b1.cell (p := ⟨_, _, none⟩) (World.block_lt_of_cell? _ _ c0)).trans c0)
        go_ret
        exact ⟨by rw [E.out]; rfl, below_mono HB0.out (below_mono HBL.out b1)⟩
      · have HAN2 := Lib.hid (HAN.out (by rw [HBO.out, wi_yes (by omega) (by omega)]; rfl))
        have d1 : decide (xc < 1) = false := by simpa using t1
        have d2 : decide (8 < xc) = false := by simpa using t2
        have x1 : 1 ≤ xc := by omega
        have x8 : xc ≤ 8 := by omega
        clear t1 t2
        go_wp2_with (go_at_call 29; refine (HC.out _).mono ?_; rintro e w1 ⟨rfl, b1⟩; obtain ⟨a0', a3'⟩ := HXA.out w1 (below_mono HBL.out b1); have c0' := (b1.cell (p := ⟨_, _, none⟩) (World.block_lt_of_cell? _ _ c0)).trans c0)
        go_roundw
        case rel => exact ⟨k + 1, by omega, by go_num, by rw [HTT.out], HAN2.out, below_mono HBL.out b1⟩
        case measure => simp [intOf]; omega
    · obtain rfl : k = nb := by omega
      have hT : banks.take k = banks := List.take_of_length_le (by rw [HN.out]; exact Nat.le_refl _)
      have hbx := HX.out wr hbl
      obtain ⟨_, c1, c2, _, c4, c5, c6, c7, c8, c9, c10, c11, c12⟩ := hbx
      rw [hT] at HAL
      have hcb := cars_bd _ HAL.out
      have hcn : banks.length = k := HN.out
      have K0 : Hid (p 0 = true) := Lib.hid (by rw [HD.out 0]; exact wi_yes (by omega) (by omega))
      have K1 : Hid (p 1 = true) := Lib.hid (by rw [HD.out 1]; exact List.all_eq_true.2 HAL.out)
      have hD4 : p 4 = decide (once order (cars banks)) := HD.out 4
      have HD4 := Lib.hid hD4
      clear hD4
      rw [hT]
      obtain ⟨s, hs⟩ : ∃ s, cars banks = s := ⟨_, rfl⟩
      rw [hs] at hcb HD4 ⊢
      have hs0 : 0 ≤ s := by omega
      have hs1 : s ≤ 64 := by omega
      clear hs hcb hcn hT
      simp only at c1 c2 c4 c5 c6 c7 c8 c9 c10 c11 c12
      rcases (show floors < 2 ∨ (2 ≤ floors ∧ 32 < floors) ∨ (2 ≤ floors ∧ floors ≤ 32 ∧ (home < 0 ∨ (0 ≤ home ∧ floors ≤ home) ∨ (0 ≤ home ∧ home < floors ∧ (¬ (no : Int) = s ∨ (no : Int) = s)))) by omega) with q0 | ⟨q0, q1⟩ | ⟨q0, q1, q2 | ⟨q2, q3⟩ | ⟨q2, q3, q4 | q4⟩⟩
      · have E := Lib.hid (HNO.out 2 (by decide) (by rw [HD.out 2]; exact wi_no.2 (.inl (by omega))))
        go_wp2
        go_ret
        exact ⟨by rw [E.out]; rfl, below_mono HB0.out HBL.out⟩
      · have E := Lib.hid (HNO.out 2 (by decide) (by rw [HD.out 2]; exact wi_no.2 (.inr (by omega))))
        have d1 : decide (floors < 2) = false := by simp; omega
        go_wp2
        go_ret
        exact ⟨by rw [E.out]; rfl, below_mono HB0.out HBL.out⟩
      · have E := Lib.hid (HNO.out 3 (by decide) (by rw [HD.out 3]; exact wi_no.2 (.inl (by omega))))
        have d1 : decide (floors < 2) = false := by simp; omega
        have d2 : decide (32 < floors) = false := by simp; omega
        go_wp2
        go_ret
        exact ⟨by rw [E.out]; rfl, below_mono HB0.out HBL.out⟩
      · have E := Lib.hid (HNO.out 3 (by decide) (by rw [HD.out 3]; exact wi_no.2 (.inr (by omega))))
        have d1 : decide (floors < 2) = false := by simp; omega
        have d2 : decide (32 < floors) = false := by simp; omega
        have d3 : decide (home < 0) = false := by simp; omega
        go_wp2
        go_ret
        exact ⟨by rw [E.out]; rfl, below_mono HB0.out HBL.out⟩
      · have E := Lib.hid (HNO.out 4 (by decide) (by rw [HD4.out]; exact not_once_len (by rw [HO.out]; exact q4)))
        have d1 : decide (floors < 2) = false := by simp; omega
        have d2 : decide (32 < floors) = false := by simp; omega
        have d3 : decide (home < 0) = false := by simp; omega
        have d4 : decide (floors ≤ home) = false := by simp; omega
        have d5 : ((no : Int) != s) = true := by simpa using q4
        clear q4
        go_wp2
        go_ret
        exact ⟨by rw [E.out]; rfl, below_mono HB0.out HBL.out⟩
      · have K2 : Hid (p 2 = true) := Lib.hid (by rw [HD.out 2]; exact wi_yes (by omega) (by omega))
        have K3 : Hid (p 3 = true) := Lib.hid (by rw [HD.out 3]; exact wi_yes (by omega) (by omega))
        have d1 : decide (floors < 2) = false := by simp; omega
        have d2 : decide (32 < floors) = false := by simp; omega
        have d3 : decide (home < 0) = false := by simp; omega
        have d4 : decide (floors ≤ home) = false := by simp; omega
        subst q4
        have d5 : ((no : Int) != (no : Int)) = false := by simp
        go_wp2
        clear d1 d2 d3 d4 d5 q0 q1 q2 q3 hs0 hs1 c1 c2
        have HOn : Hid (∀ j : Nat, j < no → cnt order j ≠ 1 → p 4 = false) := Lib.hid fun j hj h => by
          rw [HD4.out, decide_eq_false_iff_not]
          exact fun ho => h (((once_iff order no).1 ho).2 j hj)
        go_loop [6] (fun c => ∃ j : Nat, j ≤ no ∧ c = .int .i64 j ∧ ∀ i : Nat, i < j → cnt order i = 1) (fun c => no - (intOf c).toNat)
        case atStart => exact ⟨0, Nat.zero_le _, rfl, fun i h => absurd h (by omega)⟩
        case round =>
          obtain ⟨j, hj, rfl, hones⟩ := hrel
          have HON := Lib.hid hones
          clear hones
          by_cases hjl : j < no
          · go_wp2
            go_loop [7, 8] (fun t i => ∃ m : Nat, m ≤ no ∧ i = .int .i64 m ∧ t = .int .i64 (((order.take m).count (j : Int) : Nat) : Int)) (fun _ i => no - (intOf i).toNat)
            case atStart => exact ⟨0, Nat.zero_le _, rfl, rfl⟩
            case round =>
              obtain ⟨m, hm, rfl, rfl⟩ := hrel
              by_cases hml : m < no
              · have hso := (HSI.out.os.below HB0.out (Nat.le_refl _))
                obtain ⟨b, o, rfl, hbB, hcell⟩ := hso.at_ (Sees.nums_at .i64 order m (by rw [HO.out]; exact hml))
                have hx : order[m]? = some (order[m]?.getD 0) := by simp [show m < order.length by rw [HO.out]; exact hml]
                have hc' := (HBL.out.cell (p := ⟨b, o + m, none⟩) (by have := HSZ.out; show b < W1.heap.size; omega)).trans hcell
                have HT := Lib.hid (count_take_succ order m _ (j : Int) hx)
                have hle : (order.take m).count (j : Int) ≤ no := Nat.le_trans List.count_le_length (Nat.le_trans (List.length_take_le _ _) hm)
                generalize order[m]?.getD 0 = x at *
                generalize (order.take m).count (j : Int) = ct at *
                have rk0 : (0 : Int) ≤ (m : Int) := by omega
                have rk1 : (m : Int) < (no : Int) := by omega
                clear hcell hx hso
                by_cases hxe : x = (j : Int)
                · have t1 : (x == (j : Int)) = true := by simpa using hxe
                  have HXE := Lib.hid hxe
                  clear hxe
                  go_wp2
                  go_round
                  case rel => exact ⟨m + 1, by omega, by go_num, by rw [HT.out, if_pos HXE.out]; go_num⟩
                  case measure => simp [intOf]; omega
                · have t1 : (x == (j : Int)) = false := by simpa using hxe
                  have HXE := Lib.hid hxe
                  clear hxe
                  go_wp2
                  go_round
                  case rel => exact ⟨m + 1, by omega, by go_num, by rw [HT.out, if_neg HXE.out]; rfl⟩
                  case measure => simp [intOf]; omega
              · obtain rfl : m = no := by omega
                have hT : order.take m = order := List.take_of_length_le (by rw [HO.out]; exact Nat.le_refl _)
                have hct : (order.take m).count (j : Int) = cnt order j := by rw [hT]; rfl
                rw [hct]
                clear hct hT
                by_cases hc1 : cnt order j = 1
                · have HON2 : Hid (∀ i : Nat, i < j + 1 → cnt order i = 1) := Lib.hid fun i hi => by
                    rcases Nat.lt_or_ge i j with h | h
                    · exact HON.out i h
                    · obtain rfl : i = j := by omega
                      exact hc1
                  rw [hc1]
                  clear hc1
                  go_wp2
                  go_round
                  case rel => exact ⟨j + 1, by omega, by go_num, HON2.out⟩
                  case measure => simp [intOf]; omega
                · have E := Lib.hid (HNO.out 4 (by decide) (HOn.out j hjl hc1))
                  have t1 : (((cnt order j : Nat) : Int) != 1) = true := by simp; omega
                  generalize cnt order (j : Int) = ct at *
                  clear hc1
                  go_wp2
                  go_ret
                  exact ⟨by rw [E.out]; rfl, below_mono HB0.out HBL.out⟩
          · obtain rfl : j = no := by omega
            have K4 : Hid (p 4 = true) := Lib.hid (by rw [HD4.out]; exact decide_eq_true ((once_iff order j).2 ⟨HO.out, HON.out⟩))
            have hf := HF.out
            have W6 := Lib.hid (fun W => wait_any dwell W)
            have W7 := Lib.hid (fun W => wait_any good W)
            have W8 := Lib.hid (fun W => wait_any dead W)
            have W9 := Lib.hid (fun W => wait_any turn W)
            have P7 : p 7 = wi dwell 1 200 := HD.out 7
            have P8 : p 8 = wi good 1 200 := HD.out 8
            have P9 : p 9 = wi dead 1 200 := HD.out 9
            have P10 : p 10 = wi turn 1 200 := HD.out 10
            have HP7 := Lib.hid P7
            have HP8 := Lib.hid P8
            have HP9 := Lib.hid P9
            have HP10 := Lib.hid P10
            clear P7 P8 P9 P10
            clear HF
            have HD5 := Lib.hid (HD.out 5)
            have HD6 := Lib.hid (HD.out 6)
            have HD11 := Lib.hid (HD.out 11)
            have HD12 := Lib.hid (HD.out 12)
            have HD13 := Lib.hid (HD.out 13)
            clear HD
            generalize wi dwell 1 200 = pw2 at *
            generalize wi good 1 200 = pw3 at *
            generalize wi dead 1 200 = pw4 at *
            generalize wi turn 1 200 = pw5 at *
            rcases hf with ⟨a0, b0, a1, b1, f2⟩ | ⟨a0, b0, a1, b1, g2, f3⟩ | ⟨a0, b0, a1, b1, g2, g3, f4⟩ | ⟨a0, b0, a1, b1, g2, g3, g4, f5⟩
            · have E := Lib.hid (HNO.out 7 (by decide) (by rw [HP7.out]; exact f2))
              subst f2
              go_wp2_with (first
                | (go_at_call 30; (with_reducible refine (W6.out _).mono ?_); rintro e w' ⟨rfl, rfl⟩)
                | (go_at_call 30; (with_reducible refine (W7.out _).mono ?_); rintro e w' ⟨rfl, rfl⟩)
                | (go_at_call 30; (with_reducible refine (W8.out _).mono ?_); rintro e w' ⟨rfl, rfl⟩)
                | (go_at_call 30; (with_reducible refine (W9.out _).mono ?_); rintro e w' ⟨rfl, rfl⟩))
              go_ret
              first | exact ⟨by rw [E.out]; rfl, below_mono HB0.out HBL.out⟩ | (refine ⟨?_, below_mono HB0.out HBL.out⟩; rw [E.out]; simp; omega)
            · have E := Lib.hid (HNO.out 8 (by decide) (by rw [HP8.out]; exact f3))
              subst g2
              subst f3
              go_wp2_with (first
                | (go_at_call 30; (with_reducible refine (W6.out _).mono ?_); rintro e w' ⟨rfl, rfl⟩)
                | (go_at_call 30; (with_reducible refine (W7.out _).mono ?_); rintro e w' ⟨rfl, rfl⟩)
                | (go_at_call 30; (with_reducible refine (W8.out _).mono ?_); rintro e w' ⟨rfl, rfl⟩)
                | (go_at_call 30; (with_reducible refine (W9.out _).mono ?_); rintro e w' ⟨rfl, rfl⟩))
              go_ret
              first | exact ⟨by rw [E.out]; rfl, below_mono HB0.out HBL.out⟩ | (refine ⟨?_, below_mono HB0.out HBL.out⟩; rw [E.out]; simp; omega)
            · have E := Lib.hid (HNO.out 9 (by decide) (by rw [HP9.out]; exact f4))
              subst g2
              subst g3
              subst f4
              go_wp2_with (first
                | (go_at_call 30; (with_reducible refine (W6.out _).mono ?_); rintro e w' ⟨rfl, rfl⟩)
                | (go_at_call 30; (with_reducible refine (W7.out _).mono ?_); rintro e w' ⟨rfl, rfl⟩)
                | (go_at_call 30; (with_reducible refine (W8.out _).mono ?_); rintro e w' ⟨rfl, rfl⟩)
                | (go_at_call 30; (with_reducible refine (W9.out _).mono ?_); rintro e w' ⟨rfl, rfl⟩))
              go_ret
              first | exact ⟨by rw [E.out]; rfl, below_mono HB0.out HBL.out⟩ | (refine ⟨?_, below_mono HB0.out HBL.out⟩; rw [E.out]; simp; omega)
            · have E := Lib.hid (HNO.out 10 (by decide) (by rw [HP10.out]; exact f5))
              subst g2
              subst g3
              subst g4
              subst f5
              go_wp2_with (first
                | (go_at_call 30; (with_reducible refine (W6.out _).mono ?_); rintro e w' ⟨rfl, rfl⟩)
                | (go_at_call 30; (with_reducible refine (W7.out _).mono ?_); rintro e w' ⟨rfl, rfl⟩)
                | (go_at_call 30; (with_reducible refine (W8.out _).mono ?_); rintro e w' ⟨rfl, rfl⟩)
                | (go_at_call 30; (with_reducible refine (W9.out _).mono ?_); rintro e w' ⟨rfl, rfl⟩))
              go_ret
              first | exact ⟨by rw [E.out]; rfl, below_mono HB0.out HBL.out⟩ | (refine ⟨?_, below_mono HB0.out HBL.out⟩; rw [E.out]; simp; omega)

end Go.Proofs.Ytkicijgempccfaa.Con
