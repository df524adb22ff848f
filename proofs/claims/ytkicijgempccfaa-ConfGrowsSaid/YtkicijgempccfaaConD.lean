/- Contracts of conf.Bank, Most, banksMay. -/
import Derived.Test.YtkicijgempccfaaConC
namespace Go.Proofs.Ytkicijgempccfaa.Con
open Go.RowKit Go.Proofs.Ytkicijgempccfaa.RatP Go.Proofs.Ytkicijgempccfaa.SatP Go.Proofs.Ytkicijgempccfaa.ConP Go.Proofs.Ytkicijgempccfaa.Rat
set_option linter.unusedVariables false

set_option maxHeartbeats 1600000 in
theorem Bank_any (v : V) (hb : ∀ b ∈ v.c.banks, bOk b = true) (h8 : v.c.banks.length ≤ 1000) (car : Int) (hcar : car ≤ 1000000) (w : World) (hin : V.In w v) : Calls Try.prog 14 #[v.val, .int .i64 car] w (Says w (.int .i64 (bankOf v.c.banks car))) := by
  have hin' := hin.bs
  obtain ⟨A, cb, O, co, ⟨banks, floors, home, order, speed, width, dwell, good, dead, lag, turn, cost, full⟩⟩ := v
  simp only [V.val] at *
  obtain ⟨nb, hnb⟩ : ∃ n, banks.length = n := ⟨_, rfl⟩
  rw [hnb] at h8 ⊢
  have HN := Lib.hid hnb
  have HB := Lib.hid hb
  have HS := Lib.hid hin'
  generalize order.length = no
  clear hnb hb hin hin'
  by_cases hneg : car < 0
  · have E := Lib.hid (bankOf_neg banks hneg)
    go_enter Try.func14, Try.ntmps14
    go_wp2
    go_ret
    exact ⟨by rw [E.out]; rfl, says_box⟩
  have hpos : 0 ≤ car := by omega
  clear hneg
  go_enter Try.func14, Try.ntmps14
  go_wp2
  go_loopw [1, 12] (fun c i wr => ∃ k : Nat, k ≤ nb ∧ i = .int .i64 k ∧ cars (banks.take k) ≤ car ∧ c = .int .i64 (car - cars (banks.take k)) ∧ Below w.heap.size w wr) (fun _ i _ => nb - (intOf i).toNat)
  case atStart => exact ⟨0, Nat.zero_le _, rfl, by simp [cars]; omega, by simp [cars], says_box⟩
  case round =>
    obtain ⟨k, hk, rfl, hle, rfl, hbl⟩ := hrel
    have h1 := cars_take_le banks HB.out k
    by_cases hlt : k < nb
    · obtain ⟨x, hx⟩ := at_bank banks k (by rw [HN.out]; exact hlt)
      obtain ⟨b, o, rfl, hbB, hc0⟩ := sees_bank HS.out hx
      have hc := hc0.next hbl hbB
      obtain ⟨c0, c1, c2, c3, c4, c5, c6⟩ := hc
      have hxo := (ok_at HB.out hx).1
      have ht := cars_take_succ banks k x hx
      have E := Lib.hid (bankOf_in banks HB.out k x hx car hle)
      obtain ⟨xc, ⟨xi, xm, xg, xp, xd, xw⟩⟩ := x
      simp only at *
      obtain ⟨x1, x8⟩ := hxo
      generalize cars (banks.take k) = s at *
      generalize hT : cars (banks.take (k + 1)) = t at *
      have HTT := Lib.hid hT
      have HTS := Lib.hid ht
      obtain ⟨y, hy⟩ : ∃ y, car - s = y := ⟨_, rfl⟩
      rw [hy]
      have hy0 : 0 ≤ y := by omega
      have hy1 : y ≤ 1000000 := by omega
      have HY := Lib.hid hy
      have HL := Lib.hid hle
      have HBL := Lib.hid hbl
      clear hT ht hc0 hbl h1 hx hy hle
      by_cases hin : y < xc
      · go_wp2
        go_ret
        exact ⟨ret_int (by have := HY.out; rw [E.out (by omega)]), below_mono HBL.out says_box⟩
      · go_wp2
        go_roundw
        case rel => exact ⟨k + 1, by omega, by go_num, by have := HY.out; have := HTT.out; have := HTS.out; omega, by have h1 := HY.out; have h2 := HTT.out; have h3 := HTS.out; rw [h2]; congr 1; omega, below_mono HBL.out says_box⟩
        case measure => simp [intOf]; omega
    · obtain rfl : k = nb := by omega
      have hT : banks.take k = banks := List.take_of_length_le (by rw [HN.out]; exact Nat.le_refl _)
      rw [hT] at hle
      have E := Lib.hid (bankOf_out banks HB.out car hle)
      have HT := Lib.hid hT
      clear hT hle h1
      go_wp2
      go_ret
      exact ⟨by rw [E.out]; rfl, hbl⟩

theorem lays_below {w w' : World} {B : Nat} {r : R} {x : Value} {e : Ending} (hl : Lays w B r x e w') (a : World) (ha : Below a.heap.size a w) (hB : a.heap.size ≤ B) : Below a.heap.size a w' :=
  ha.grown hl.2.2 ha.size (fun k hk => by injection hk with hk; subst hk; exact hB)

set_option maxHeartbeats 1600000 in
theorem Most_conf (v : V) (hb : ∀ b ∈ v.c.banks, bOk b = true) (h8 : v.c.banks.length ≤ 1000) (w : World) (hin : V.In w v) : Calls Try.prog 18 #[v.val] w (Says w (.int .i64 (mo v.c.banks))) := by
  have hin' := hin.bs
  obtain ⟨A, cb, O, co, ⟨banks, floors, home, order, speed, width, dwell, good, dead, lag, turn, cost, full⟩⟩ := v
  simp only [V.val] at *
  obtain ⟨nb, hnb⟩ : ∃ n, banks.length = n := ⟨_, rfl⟩
  rw [hnb] at h8 ⊢
  have HN := Lib.hid hnb
  have HB := Lib.hid hb
  have HS := Lib.hid hin'
  generalize order.length = no
  clear hnb hb hin hin'
  go_enter Try.func18, Try.ntmps18
  go_wp2
  go_loopw [3, 9] (fun n i wr => ∃ k : Nat, k ≤ nb ∧ i = .int .i64 k ∧ n = .int .i64 (mo (banks.take k)) ∧ Below w.heap.size w wr) (fun _ i _ => nb - (intOf i).toNat)
  case atStart => exact ⟨0, Nat.zero_le _, rfl, rfl, says_box⟩
  case round =>
    obtain ⟨k, hk, rfl, rfl, hbl⟩ := hrel
    by_cases hlt : k < nb
    · obtain ⟨x, hx⟩ := at_bank banks k (by rw [HN.out]; exact hlt)
      obtain ⟨b, o, rfl, hbB, hc0⟩ := sees_bank HS.out hx
      have hc := hc0.next hbl hbB
      obtain ⟨c0, c1, c2, c3, c4, c5, c6⟩ := hc
      have hxo := (ok_at HB.out hx).2
      have ht := mo_take_succ banks k x hx
      have HX := Lib.hid hxo
      have HNW := Lib.hid (fun W => New_yes x.r hxo W)
      have HMO := Lib.hid (fun B W (ht : Fresh W B x.r) => Most_any x.r hxo B W (.inl ht))
      obtain ⟨xc, r⟩ := x
      simp only at *
      generalize mo (banks.take k) = s at *
      generalize hT : mo (banks.take (k + 1)) = t at *
      generalize most r = m at *
      have m1 : ∀ W, (Builtin.max_ #[3, 3] 3 #[.int .i64 s, .int .i64 m]).run Try.prog W = .ok (.int .i64 t) W := fun W => by
        rw [run_max_int2, ht]; congr 2; split <;> omega
      have HTT := Lib.hid hT
      have HBL := Lib.hid hbl
      clear hT ht hc0 hbl hx hxo
      unfold val at HNW
      go_wp2_with (first
        | (go_at_call 32; refine (HNW.out _).mono ?_; rintro e w1 ⟨B, rfl, hB, b1, hF⟩; have HF := Lib.hid hF; clear hF)
        | (go_at_call 33; (with_reducible refine (HMO.out B _ HF.out).mono ?_); intro e w2 hL; have b2 := lays_below hL _ b1 hB; obtain ⟨rfl, _, _⟩ := hL))
      go_roundw
      case rel => exact ⟨k + 1, by omega, by go_num, by rw [HTT.out], below_mono HBL.out (below_mono says_box b2)⟩
      case measure => simp [intOf]; omega
    · obtain rfl : k = nb := by omega
      have hT : banks.take k = banks := List.take_of_length_le (by rw [HN.out]; exact Nat.le_refl _)
      have HT := Lib.hid hT
      clear hT
      go_wp2
      go_ret
      exact ⟨ret_int (by rw [HT.out]), hbl⟩

theorem mayB_rOk (r : R) : mayB r = rOk r := by
  have h1 := mayB_iff r
  have h2 := rOk_iff r
  cases h : mayB r <;> cases k : rOk r <;> simp_all
theorem all_take_succ (l : List Bk) (k : Nat) (b : Bk) (hk : l[k]? = some b) : (l.take (k + 1)).all bOk = ((l.take k).all bOk && bOk b) := by
  rw [List.take_add_one, hk, List.all_append]; simp
theorem all_no (l : List Bk) (k : Nat) (b : Bk) (hk : l[k]? = some b) (h : bOk b = false) : l.all bOk = false := by
  rw [List.all_eq_false]; exact ⟨b, List.mem_of_getElem? hk, by simp [h]⟩

set_option maxHeartbeats 1600000 in
theorem banksMay_any (banks : List Bk) (A : Option Addr) (nb cb : Nat) (hnb : banks.length = nb) (h8 : nb ≤ 1000) (w : World) (hin : Sees.Sees w w.heap.size A (bRow banks)) : Calls Try.prog 41 #[.slice A nb cb] w (Says w (.bool (banks.all bOk))) := by
  have HN := Lib.hid hnb
  have HS := Lib.hid hin
  clear hnb hin
  go_enter Try.func41, Try.ntmps41
  go_wp2
  go_loopw [7] (fun i wr => ∃ k : Nat, k ≤ nb ∧ i = .int .i64 k ∧ (banks.take k).all bOk = true ∧ Below w.heap.size w wr) (fun i _ => nb - (intOf i).toNat)
  case atStart => exact ⟨0, Nat.zero_le _, rfl, rfl, Below.refl _ _⟩
  case round =>
    obtain ⟨k, hk, rfl, hall, hbl⟩ := hrel
    have HA := Lib.hid hall
    clear hall
    by_cases hlt : k < nb
    · obtain ⟨x, hx⟩ := at_bank banks k (by rw [HN.out]; exact hlt)
      obtain ⟨b, o, rfl, hbB, hc0⟩ := sees_bank HS.out hx
      have hc := hc0.next hbl hbB
      obtain ⟨c0, c1, c2, c3, c4, c5, c6⟩ := hc
      have ht := all_take_succ banks k x hx
      have HNO := Lib.hid (all_no banks k x hx)
      rw [HA.out] at ht
      have HW := Lib.hid (fun W => within_any x.cars 1 8 W)
      have HC := Lib.hid (fun W => Check_any x.r W)
      rw [mayB_rOk] at HC
      have hbok : bOk x = (wi x.cars 1 8 && rOk x.r) := rfl
      obtain ⟨xc, ⟨xi, xm, xg, xp, xd, xw⟩⟩ := x
      unfold val at HC
      simp only at *
      generalize wi xc 1 8 = p at *
      generalize rOk ⟨xi, xm, xg, xp, xd, xw⟩ = q at *
      have HT := Lib.hid ht
      have HBO := Lib.hid hbok
      have HBL := Lib.hid hbl
      clear ht hc0 hbl hx hbok
      cases p
      · go_wp2_with (first
          | (go_at_call 39; refine (HW.out _).mono ?_; rintro e w' ⟨rfl, rfl⟩))
        go_ret
        exact ⟨by rw [HNO.out (by rw [HBO.out]; rfl)]; rfl, below_mono HBL.out says_box⟩
      · cases q
        · go_wp2_with (first
            | (go_at_call 39; refine (HW.out _).mono ?_; rintro e w' ⟨rfl, rfl⟩)
            | (go_at_call 56; refine (HC.out _).mono ?_; rintro e w1 ⟨rfl, b1⟩))
          go_ret
          exact ⟨by rw [HNO.out (by rw [HBO.out]; rfl)]; rfl, below_mono HBL.out (below_mono says_box b1)⟩
        · go_wp2_with (first
            | (go_at_call 39; refine (HW.out _).mono ?_; rintro e w' ⟨rfl, rfl⟩)
            | (go_at_call 56; refine (HC.out _).mono ?_; rintro e w1 ⟨rfl, b1⟩))
          go_roundw
          case rel => exact ⟨k + 1, by omega, by go_num, by rw [HT.out, HBO.out]; rfl, below_mono HBL.out (below_mono says_box b1)⟩
          case measure => simp [intOf]; omega
    · obtain rfl : k = nb := by omega
      have hT : banks.take k = banks := List.take_of_length_le (by rw [HN.out]; exact Nat.le_refl _)
      rw [hT] at HA
      clear hT
      go_wp2
      go_ret
      exact ⟨by rw [HA.out]; rfl, hbl⟩

end Go.Proofs.Ytkicijgempccfaa.Con
