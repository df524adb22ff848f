/- Contracts of the document's own answers: rates, wait, stops, Run, Cars, Bank, Most. -/
import Derived.Test.YtkicijgempccfaaConF
import Derived.Test.YtkicijgempccfaaRatF
namespace Go.Proofs.Ytkicijgempccfaa.Con
open Go.RowKit Go.Proofs.Ytkicijgempccfaa.RatP Go.Proofs.Ytkicijgempccfaa.SatP Go.Proofs.Ytkicijgempccfaa.ConP Go.Proofs.Ytkicijgempccfaa.Rat
set_option linter.unusedVariables false

theorem first_rate {r : R} (h : rOk r = false) : r.idle < 0 ∨ (0 ≤ r.idle ∧ 1000 < r.idle) ∨ (0 ≤ r.idle ∧ r.idle ≤ 1000 ∧ (r.move < 0 ∨ (0 ≤ r.move ∧ 1000 < r.move) ∨ (0 ≤ r.move ∧ r.move ≤ 1000 ∧ (r.gain < 0 ∨ (0 ≤ r.gain ∧ 1000 < r.gain) ∨ (0 ≤ r.gain ∧ r.gain ≤ 1000 ∧ (r.door < 0 ∨ (0 ≤ r.door ∧ 1000 < r.door) ∨ (0 ≤ r.door ∧ r.door ≤ 1000 ∧ (r.pull < 0 ∨ (0 ≤ r.pull ∧ 100 < r.pull) ∨ (0 ≤ r.pull ∧ r.pull ≤ 100 ∧ (r.weight < 0 ∨ (0 ≤ r.weight ∧ 64 < r.weight))))))))))) := by
  have hn : ¬ r.May := fun hm => by rw [(rOk_iff r).2 hm] at h; cases h
  by_cases a : 0 ≤ r.idle ∧ r.idle ≤ 1000 ∧ 0 ≤ r.move ∧ r.move ≤ 1000 ∧ 0 ≤ r.gain ∧ r.gain ≤ 1000 ∧ 0 ≤ r.door ∧ r.door ≤ 1000 ∧ 0 ≤ r.pull ∧ r.pull ≤ 100 ∧ 0 ≤ r.weight ∧ r.weight ≤ 64
  · obtain ⟨a0, a1, a2, a3, a4, a5, a6, a7, a8, a9, a10, a11⟩ := a
    exact absurd ⟨a0, a1, a2, a3, a4, a5, a8, a9, a6, a7, a10, a11⟩ hn
  · omega

set_option maxRecDepth 100000 in
set_option maxHeartbeats 3200000 in
theorem refRates_any (r : R) (w : World) : Calls Try.prog 29 #[val r] w (Says w (.bool (rOk r))) := by
  unfold val
  cases hm : rOk r
  · have hf := first_rate hm
    clear hm
    rcases hf with q0 | ⟨q0, q1⟩ | ⟨q0, q1, q2 | ⟨q2, q3⟩ | ⟨q2, q3, q4 | ⟨q4, q5⟩ | ⟨q4, q5, q6 | ⟨q6, q7⟩ | ⟨q6, q7, q8 | ⟨q8, q9⟩ | ⟨q8, q9, q10 | ⟨q10, q11⟩⟩⟩⟩⟩⟩
    all_goals
      go_enter Try.func29, Try.ntmps29
      go_wp2
      go_ret
      first | exact ⟨rfl, says_box⟩ | (refine ⟨?_, says_box⟩; simp; omega)
  · have hr : r.May := (rOk_iff r).1 hm
    have q0 := hr.i0
    have q1 := hr.i1
    have q2 := hr.m0
    have q3 := hr.m1
    have q4 := hr.g0
    have q5 := hr.g1
    have q6 := hr.p0
    have q7 := hr.p1
    have q8 := hr.d0
    have q9 := hr.d1
    have q10 := hr.w0
    have q11 := hr.w1
    clear hm hr
    go_enter Try.func29, Try.ntmps29
    go_wp2
    go_ret
    exact ⟨rfl, says_box⟩

theorem wait_any (n : Int) (w : World) : Calls Try.prog 30 #[.int .i64 n] w fun e w' => e = .returned (.bool (wi n 1 200)) ∧ w = w' := by
  by_cases h0 : 0 < n
  · by_cases h1 : n < 201
    · have E := Lib.hid (wi_yes (n := n) (lo := 1) (hi := 200) (by omega) (by omega))
      go_enter Try.func30, Try.ntmps30
      go_wp2
      go_ret
      exact ⟨by rw [E.out]; rfl, rfl⟩
    · have E := Lib.hid (show wi n 1 200 = false from wi_no.2 (.inr (by omega)))
      have d1 : decide (n < 201) = false := by simpa using h1
      clear h1
      go_enter Try.func30, Try.ntmps30
      go_wp2
      go_ret
      exact ⟨by rw [E.out]; rfl, rfl⟩
  · have E := Lib.hid (show wi n 1 200 = false from wi_no.2 (.inl (by omega)))
    have d1 : decide (0 < n) = false := by simpa using h0
    clear h0
    go_enter Try.func30, Try.ntmps30
    go_wp2
    go_ret
    exact ⟨by rw [E.out]; rfl, rfl⟩

theorem stops_any (n : Int) (w : World) : Calls Try.prog 37 #[.int .i64 n] w fun e w' => e = .returned (.int .i64 (bk n)) ∧ w = w' := by
  rcases (show (n < 0 ∧ bk n = 0) ∨ (¬ n < 0 ∧ 1000000 < n ∧ bk n = 1000000) ∨ (¬ n < 0 ∧ ¬ 1000000 < n ∧ bk n = n) by unfold bk; split <;> (try split) <;> omega) with ⟨h, e⟩ | ⟨h, h2, e⟩ | ⟨h, h2, e⟩
  all_goals
    have E := Lib.hid e
    clear e
    go_enter Try.func37, Try.ntmps37
    go_wp2
    go_ret
    exact ⟨by rw [E.out]; rfl, rfl⟩

theorem refRun_any (v : V) (h0 : 0 ≤ v.c.floors) (h1 : v.c.floors ≤ 100) (w : World) : Calls Try.prog 21 #[v.val] w (Says w (.int .i64 (run v.c))) := by
  obtain ⟨A, cb, O, co, ⟨banks, floors, home, order, speed, width, dwell, good, dead, lag, turn, cost, full⟩⟩ := v
  simp only [V.val, run] at *
  go_enter Try.func21, Try.ntmps21
  go_wp2
  go_ret
  exact ⟨rfl, says_box⟩

set_option maxHeartbeats 1600000 in
theorem refCars_any (v : V) (hb : ∀ b ∈ v.c.banks, bOk b = true) (h8 : v.c.banks.length ≤ 1000) (w : World) (hin : V.In w v) : Calls Try.prog 17 #[v.val] w (Says w (.int .i64 (cars v.c.banks))) := by
  have hin' := hin.bs
  obtain ⟨A, cb, O, co, ⟨banks, floors, home, order, speed, width, dwell, good, dead, lag, turn, cost, full⟩⟩ := v
  simp only [V.val] at *
  obtain ⟨nb, hnb⟩ : ∃ n, banks.length = n := ⟨_, rfl⟩
  rw [hnb] at h8 ⊢
  have HN := Lib.hid hnb
  have HB := Lib.hid hb
  have HS := Lib.hid hin'
  generalize order.length = no
  clear hnb hb hin hin'
  go_enter Try.func17, Try.ntmps17
  go_wp2
  go_loop [3, 4] (fun n i => ∃ k : Nat, k ≤ nb ∧ i = .int .i64 k ∧ n = .int .i64 (cars (banks.take k))) (fun _ i => nb - (intOf i).toNat)
  case atStart => exact ⟨0, Nat.zero_le _, rfl, rfl⟩
  case round =>
    obtain ⟨k, hk, rfl, rfl⟩ := hrel
    by_cases hlt : k < nb
    · obtain ⟨x, hx⟩ := at_bank banks k (by rw [HN.out]; exact hlt)
      obtain ⟨b, o, rfl, hbB, hc0⟩ := sees_bank HS.out hx
      have c0 := hc0.c0
      have hxo := (ok_at HB.out hx).1
      have ht := cars_take_succ banks k x hx
      have h1 := cars_bd _ (take_ok HB.out k)
      have h2 : (banks.take k).length ≤ 1000 := Nat.le_trans (List.length_take_le _ _) (by omega)
      obtain ⟨xc, ⟨xi, xm, xg, xp, xd, xw⟩⟩ := x
      simp only at *
      obtain ⟨x1, x8⟩ := hxo
      have s0 : 0 ≤ cars (banks.take k) := by omega
      have s1 : cars (banks.take k) ≤ 8000 := by omega
      generalize cars (banks.take k) = s at *
      generalize hT : cars (banks.take (k + 1)) = t at *
      have HTT := Lib.hid (hT.trans ht)
      have rk0 : (0 : Int) ≤ (k : Int) := by omega
      have rk1 : (k : Int) < (nb : Int) := by omega
      have hne : b ≠ w.heap.size := by omega
      clear hT ht hc0 h1 h2 hx
      go_wp2
      go_round
      case rel => exact ⟨k + 1, by omega, by go_num, by rw [HTT.out]⟩
      case measure => simp [intOf]; omega
    · obtain rfl : k = nb := by omega
      have hT : banks.take k = banks := List.take_of_length_le (by rw [HN.out]; exact Nat.le_refl _)
      have HT := Lib.hid hT
      clear hT
      go_wp2
      go_ret
      exact ⟨ret_int (by rw [HT.out]), says_box⟩

set_option maxHeartbeats 1600000 in
theorem refBank_any (v : V) (hb : ∀ b ∈ v.c.banks, bOk b = true) (h8 : v.c.banks.length ≤ 1000) (car : Int) (w : World) (hin : V.In w v) : Calls Try.prog 15 #[v.val, .int .i64 car] w (Says w (.int .i64 (bankOf v.c.banks car))) := by
  have hin' := hin.bs
  obtain ⟨A, cb, O, co, ⟨banks, floors, home, order, speed, width, dwell, good, dead, lag, turn, cost, full⟩⟩ := v
  simp only [V.val] at *
  obtain ⟨nb, hnb⟩ : ∃ n, banks.length = n := ⟨_, rfl⟩
  rw [hnb] at h8 ⊢
  have HN := Lib.hid hnb
  have HB := Lib.hid hb
  have HS := Lib.hid hin'
  generalize order.length = no
  clear hnb hb hin hin'
  have hkey : Hid (∀ k x, banks[k]? = some x → cars (banks.take k) ≤ car → car < cars (banks.take k) + x.cars → bankOf banks car = k) := Lib.hid fun k x hk h1 h2 => bankOf_in banks HB.out k x hk car h1 h2
  have hout : Hid ((∀ k x, banks[k]? = some x → ¬ (cars (banks.take k) ≤ car ∧ car < cars (banks.take k) + x.cars)) → bankOf banks car = -1) := Lib.hid fun h => by
    by_cases hneg : car < 0
    · exact bankOf_neg banks hneg
    · refine bankOf_out banks HB.out car ?_
      have key : ∀ k, k ≤ banks.length → cars (banks.take k) ≤ car := by
        intro k
        induction k with
        | zero => intro _; simp [cars]; omega
        | succ k ih =>
          intro hk
          have h1 := ih (by omega)
          obtain ⟨x, hx⟩ := at_bank banks k (by omega)
          rw [cars_take_succ banks k x hx]
          have := h k x hx
          omega
      have := key banks.length (Nat.le_refl _)
      rwa [List.take_length] at this
  go_enter Try.func15, Try.ntmps15
  go_wp2
  go_loop [5, 6] (fun n i => ∃ k : Nat, k ≤ nb ∧ i = .int .i64 k ∧ n = .int .i64 (cars (banks.take k)) ∧ (∀ j x, j < k → banks[j]? = some x → ¬ (cars (banks.take j) ≤ car ∧ car < cars (banks.take j) + x.cars))) (fun _ i => nb - (intOf i).toNat)
  case atStart => exact ⟨0, Nat.zero_le _, rfl, rfl, fun j x h => absurd h (by omega)⟩
  case round =>
    obtain ⟨k, hk, rfl, rfl, hno⟩ := hrel
    have HNO := Lib.hid hno
    clear hno
    by_cases hlt : k < nb
    · obtain ⟨x, hx⟩ := at_bank banks k (by rw [HN.out]; exact hlt)
      obtain ⟨b, o, rfl, hbB, hc0⟩ := sees_bank HS.out hx
      have c0 := hc0.c0
      have hxo := (ok_at HB.out hx).1
      have ht := cars_take_succ banks k x hx
      have h1 := cars_bd _ (take_ok HB.out k)
      have h2 : (banks.take k).length ≤ 1000 := Nat.le_trans (List.length_take_le _ _) (by omega)
      have E := Lib.hid (hkey.out k x hx)
      have HX := Lib.hid hx
      obtain ⟨xc, ⟨xi, xm, xg, xp, xd, xw⟩⟩ := x
      simp only at *
      obtain ⟨x1, x8⟩ := hxo
      have s0 : 0 ≤ cars (banks.take k) := by omega
      have s1 : cars (banks.take k) ≤ 8000 := by omega
      have HNO2 : Hid (¬ (cars (banks.take k) ≤ car ∧ car < cars (banks.take k) + xc) → ∀ j x, j < k + 1 → banks[j]? = some x → ¬ (cars (banks.take j) ≤ car ∧ car < cars (banks.take j) + x.cars)) := Lib.hid fun hn j y hj hy => by
        rcases Nat.lt_or_ge j k with h | h
        · exact HNO.out j y h hy
        · obtain rfl : j = k := by omega
          rw [HX.out] at hy
          obtain rfl := Option.some.inj hy
          exact hn
      generalize cars (banks.take k) = s at *
      generalize hT : cars (banks.take (k + 1)) = t at *
      have HTT := Lib.hid (hT.trans ht)
      have rk0 : (0 : Int) ≤ (k : Int) := by omega
      have rk1 : (k : Int) < (nb : Int) := by omega
      have hne : b ≠ w.heap.size := by omega
      clear hT ht hc0 h1 h2 hx
      by_cases t1 : s ≤ car
      · by_cases t2 : car < s + xc
        · go_wp2
          go_ret
          exact ⟨ret_int (E.out t1 t2).symm, says_box⟩
        · have d2 : decide (car < s + xc) = false := by simpa using t2
          have HN2 := Lib.hid (HNO2.out (by omega))
          clear t2
          go_wp2
          go_round
          case rel => exact ⟨k + 1, by omega, by go_num, by rw [HTT.out], HN2.out⟩
          case measure => simp [intOf]; omega
      · have d1 : decide (s ≤ car) = false := by simpa using t1
        have HN2 := Lib.hid (HNO2.out (by omega))
        clear t1
        go_wp2
        go_round
        case rel => exact ⟨k + 1, by omega, by go_num, by rw [HTT.out], HN2.out⟩
        case measure => simp [intOf]; omega
    · obtain rfl : k = nb := by omega
      have E : Hid (bankOf banks car = -1) := Lib.hid (hout.out fun j x hj => HNO.out j x (by have := (List.getElem?_eq_some_iff.1 hj).1; have := HN.out; omega) hj)
      go_wp2
      go_ret
      exact ⟨by rw [E.out]; rfl, says_box⟩

set_option maxHeartbeats 1600000 in
theorem refMost_conf (v : V) (hb : ∀ b ∈ v.c.banks, bOk b = true) (h8 : v.c.banks.length ≤ 1000) (w : World) (hin : V.In w v) : Calls Try.prog 19 #[v.val] w (Says w (.int .i64 (mo v.c.banks))) := by
  have hin' := hin.bs
  have HX : Hid (∀ W, Below (w.alloc (.cells v.arr 31)).heap.size (w.alloc (.cells v.arr 31)) W → CBox W w.heap.size v) := Lib.hid fun W h => (CBox.new w v _).next h
  obtain ⟨A, cb, O, co, ⟨banks, floors, home, order, speed, width, dwell, good, dead, lag, turn, cost, full⟩⟩ := v
  simp only [V.val, V.arr] at *
  have HB := Lib.hid hb
  have HS := Lib.hid hin'
  clear hb hin hin'
  have HB0 : Hid (Below w.heap.size w (w.alloc (.cells #[.slice A banks.length cb, .int .i64 floors, .int .i64 home, .slice O order.length co, .int .i64 speed, .int .i64 width, .int .i64 dwell, .int .i64 good, .int .i64 dead, .int .i64 lag, .int .i64 turn, .int .i64 cost, .int .i64 full] 31))) := Lib.hid says_box
  go_enter Try.func19, Try.ntmps19
  go_wp2
  generalize hW1 : (World.alloc w _) = W1 at *
  have HSZ : Hid (W1.heap.size = w.heap.size + 1) := Lib.hid (by rw [← hW1]; simp)
  clear hW1
  go_loopw [3, 4] (fun n i wr => ∃ k : Nat, k ≤ banks.length ∧ i = .int .i64 k ∧ n = .int .i64 (mo (banks.take k)) ∧ Below W1.heap.size W1 wr) (fun _ i _ => banks.length - (intOf i).toNat)
  case atStart => exact ⟨0, Nat.zero_le _, rfl, rfl, Below.refl _ _⟩
  case round =>
    obtain ⟨k, hk, rfl, rfl, hbl⟩ := hrel
    have a0 := (HX.out wr hbl).c0
    simp only at a0
    by_cases hlt : k < banks.length
    · obtain ⟨x, hx⟩ := at_bank banks k hlt
      obtain ⟨b, o, rfl, hbB, hc0⟩ := sees_bank HS.out hx
      have hc := (hc0.next HB0.out hbB).next hbl (by have := HSZ.out; omega)
      obtain ⟨c0, c1, c2, c3, c4, c5, c6⟩ := hc
      have ht := mo_take_succ banks k x hx
      have hxo := (ok_at HB.out hx).2
      have HM := Lib.hid (fun W => refMost_any x.r hxo W)
      obtain ⟨xc, ⟨xi, xm, xg, xp, xd, xw⟩⟩ := x
      unfold val at HM
      simp only at *
      generalize mo (banks.take k) = s at *
      generalize hT : mo (banks.take (k + 1)) = t at *
      generalize most ⟨xi, xm, xg, xp, xd, xw⟩ = m at *
      have HTT := Lib.hid (hT.trans ht)
      have HBL := Lib.hid hbl
      have rk0 : (0 : Int) ≤ (k : Int) := by omega
      have rk1 : (k : Int) < (banks.length : Int) := by omega
      clear hT ht hc0 hbl hx hxo
      by_cases hg : s < m
      all_goals
        go_wp2_with (go_at_call 34; refine (HM.out _).mono ?_; rintro e w1 ⟨rfl, b1⟩)
        go_roundw
        case rel => exact ⟨k + 1, by omega, by go_num, by rw [HTT.out]; congr 1; omega, below_mono HBL.out b1⟩
        case measure => simp [intOf]; omega
    · obtain rfl : k = banks.length := by omega
      have hT : banks.take banks.length = banks := List.take_length
      have HT := Lib.hid hT
      have HBL := Lib.hid hbl
      clear hT hbl
      go_wp2
      go_ret
      exact ⟨ret_int (by rw [HT.out]), below_mono HB0.out HBL.out⟩

end Go.Proofs.Ytkicijgempccfaa.Con
