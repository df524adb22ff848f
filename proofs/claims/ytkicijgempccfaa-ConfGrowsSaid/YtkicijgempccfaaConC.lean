/- Contracts of conf.Doors, Cars, Bank, Most, banksMay. -/
import Derived.Test.YtkicijgempccfaaConB
namespace Go.Proofs.Ytkicijgempccfaa.Con
open Go.RowKit Go.Proofs.Ytkicijgempccfaa.RatP Go.Proofs.Ytkicijgempccfaa.SatP Go.Proofs.Ytkicijgempccfaa.ConP Go.Proofs.Ytkicijgempccfaa.Rat
set_option linter.unusedVariables false

set_option maxHeartbeats 1600000 in
theorem Doors_any (v : V) (h0 : 0 ≤ v.c.width) (h1 : v.c.width ≤ 100) (w : World) : Calls Try.prog 22 #[v.val] w (Says w (.int .i64 (doors v.c))) := by
  obtain ⟨A, cb, O, co, ⟨banks, floors, home, order, speed, width, dwell, good, dead, lag, turn, cost, full⟩⟩ := v
  simp only [V.val, doors] at *
  generalize banks.length = nb
  generalize order.length = no
  have S1 := Lib.hid (fun (B : Nat) (W : World) => sum2_any (x := width) (y := 1) (z := width + 1) (by unfold Sm; omega) (by unfold Sm; omega) (by omega) B W)
  generalize width + 1 = r at *
  clear h0 h1
  go_enter Try.func22, Try.ntmps22
  go_wp2_with (first
    | (go_at_call 31; (with_reducible refine (S1.out _ _ ?_ ?_).mono ?_); (simp); (simp); rintro e w1 ⟨rfl, b1⟩))
  go_ret
  exact ⟨rfl, below_mono says_box (below_mono says_box b1)⟩

theorem BkAt.next {W W' : World} {b o B : Nat} {x : Bk} (h : BkAt W b o x) (hb : Below B W W') (hlt : b < B) : BkAt W' b o x :=
  ⟨(hb.cell (p := ⟨b, o, none⟩) hlt).trans h.c0, (hb.cell (p := ⟨b, o + 1, none⟩) hlt).trans h.c1, (hb.cell (p := ⟨b, o + 2, none⟩) hlt).trans h.c2, (hb.cell (p := ⟨b, o + 3, none⟩) hlt).trans h.c3, (hb.cell (p := ⟨b, o + 4, none⟩) hlt).trans h.c4, (hb.cell (p := ⟨b, o + 5, none⟩) hlt).trans h.c5, (hb.cell (p := ⟨b, o + 6, none⟩) hlt).trans h.c6⟩
theorem at_bank (l : List Bk) (k : Nat) (h : k < l.length) : ∃ x, l[k]? = some x := ⟨l[k], by simp [h]⟩
theorem ok_at {l : List Bk} (h : ∀ b ∈ l, bOk b = true) {k : Nat} {x : Bk} (hk : l[k]? = some x) : (1 ≤ x.cars ∧ x.cars ≤ 8) ∧ x.r.May := (bOk_iff x).1 (h x (List.mem_of_getElem? hk))

set_option maxHeartbeats 1600000 in
theorem Cars_any (v : V) (hb : ∀ b ∈ v.c.banks, bOk b = true) (h8 : v.c.banks.length ≤ 1000) (w : World) (hin : V.In w v) : Calls Try.prog 16 #[v.val] w (Says w (.int .i64 (cars v.c.banks))) := by
  have hin' := hin.bs
  obtain ⟨A, cb, O, co, ⟨banks, floors, home, order, speed, width, dwell, good, dead, lag, turn, cost, full⟩⟩ := v
  simp only [V.val] at *
  obtain ⟨nb, hnb⟩ : ∃ n, banks.length = n := ⟨_, rfl⟩
  rw [hnb] at h8 ⊢
  have HN := Lib.hid hnb
  have HB := Lib.hid hb
  have HS := Lib.hid hin'
  generalize order.length = no
  clear hnb hb hin hin'
  go_enter Try.func16, Try.ntmps16
  go_wp2
  go_loopw [3, 9] (fun n i wr => ∃ k : Nat, k ≤ nb ∧ i = .int .i64 k ∧ n = .int .i64 (cars (banks.take k)) ∧ Below w.heap.size w wr) (fun _ i _ => nb - (intOf i).toNat)
  case atStart => exact ⟨0, Nat.zero_le _, rfl, rfl, says_box⟩
  case round =>
    obtain ⟨k, hk, rfl, rfl, hbl⟩ := hrel
    by_cases hlt : k < nb
    · obtain ⟨x, hx⟩ := at_bank banks k (by rw [HN.out]; exact hlt)
      obtain ⟨b, o, rfl, hbB, hc0⟩ := sees_bank HS.out hx
      have hc := hc0.next hbl hbB
      obtain ⟨c0, c1, c2, c3, c4, c5, c6⟩ := hc
      have hxo := (ok_at HB.out hx).1
      have ht := cars_take_succ banks k x hx
      have h1 := cars_bd _ (take_ok HB.out k)
      have h2 : (banks.take k).length ≤ 1000 := Nat.le_trans (List.length_take_le _ _) (by omega)
      obtain ⟨xc, ⟨xi, xm, xg, xp, xd, xw⟩⟩ := x
      simp only at *
      generalize cars (banks.take k) = s at *
      generalize hT : cars (banks.take (k + 1)) = t at *
      have S1 := Lib.hid (fun (B : Nat) (W : World) => sum2_any (x := s) (y := xc) (z := t) (by unfold Sm; omega) (by unfold Sm; omega) (by omega) B W)
      have HTT := Lib.hid hT
      have HBL := Lib.hid hbl
      clear hT ht hc0 hbl h1 h2 hxo hx
      go_wp2_with (go_at_call 31; (with_reducible refine (S1.out _ _ ?_ ?_).mono ?_); (simp); (simp); rintro e w1 ⟨rfl, b1⟩)
      go_roundw
      case rel => exact ⟨k + 1, by omega, by go_num, by rw [HTT.out], below_mono HBL.out (below_mono says_box (below_mono says_box b1))⟩
      case measure => simp [intOf]; omega
    · obtain rfl : k = nb := by omega
      have hT : banks.take k = banks := List.take_of_length_le (by rw [HN.out]; exact Nat.le_refl _)
      have HT := Lib.hid hT
      clear hT
      go_wp2
      go_ret
      exact ⟨ret_int (by rw [HT.out]), hbl⟩

end Go.Proofs.Ytkicijgempccfaa.Con
