/- The walk of ConfBanks. -/
import Derived.Test.YtkicijgempccfaaConM
namespace Go.Proofs.Ytkicijgempccfaa.Walk
open Go.RowKit Go.ChangeShapes Go.Proofs.Ytkicijgempccfaa.RatP Go.Proofs.Ytkicijgempccfaa.SatP Go.Proofs.Ytkicijgempccfaa.ConP Go.Proofs.Ytkicijgempccfaa.Rat Go.Proofs.Ytkicijgempccfaa.Con
set_option linter.unusedVariables false

/-- the cars so far: bank 'last', and how many of it -/
def At (l : List Bk) (j last n : Int) : Prop := ∃ (k : Nat) (x : Bk), l[k]? = some x ∧ last = k ∧ cars (l.take k) ≤ j ∧ j ≤ cars (l.take k) + x.cars ∧ n = j - cars (l.take k)
theorem cars_split (l : List Bk) (k : Nat) (x : Bk) (h : l[k]? = some x) : cars l = cars (l.take k) + x.cars + cars (l.drop (k + 1)) := by
  have h1 := cars_take_succ l k x h
  have h2 : cars l = cars (l.take (k + 1)) + cars (l.drop (k + 1)) := by rw [← cars_append, List.take_append_drop]
  omega
theorem at_end {l : List Bk} (hb : ∀ b ∈ l, bOk b = true) {k : Nat} {x : Bk} (hk : l[k]? = some x) (h : cars l ≤ cars (l.take k) + x.cars) : k + 1 = l.length ∧ cars l = cars (l.take k) + x.cars := by
  have h1 := cars_split l k x hk
  have h2 := cars_bd (l.drop (k + 1)) (fun b hm => hb b (List.mem_of_mem_drop hm))
  have hlt := (List.getElem?_eq_some_iff.1 hk).1
  rw [List.length_drop] at h2
  omega
theorem at_next {l : List Bk} (hb : ∀ b ∈ l, bOk b = true) {k : Nat} {x : Bk} (hk : l[k]? = some x) (h : cars (l.take k) + x.cars < cars l) : ∃ y, l[k + 1]? = some y ∧ cars (l.take (k + 1)) = cars (l.take k) + x.cars ∧ 1 ≤ y.cars := by
  have h1 := cars_split l k x hk
  have hlt : k + 1 < l.length := by
    rcases Nat.lt_or_ge (k + 1) l.length with h' | h'
    · exact h'
    · rw [List.drop_eq_nil_of_le h'] at h1
      simp only [cars] at h1
      omega
  obtain ⟨y, hy⟩ := at_bank l (k + 1) hlt
  exact ⟨y, hy, cars_take_succ l k x hk, (ok_at hb hy).1.1⟩

set_option maxRecDepth 100000 in
set_option maxHeartbeats 16000000 in
theorem confBanks_walk (w : World) (v : V) (hin : V.In w v) : Calls Try.prog 6 #[v.val] w fun e w' => e = .returned (.bool true) ∧ Below w.heap.size w w' := by
  have H0 := Lib.hid (LJ.new hin 25)
  have HIN := Lib.hid hin
  clear hin
  unfold V.arr at H0
  cases hsm : smB v
  · have HS := Lib.hid hsm
    clear hsm
    unfold V.val
    go_enter Try.func6, Try.ntmps6
    go_wp2_with (first
      | (go_at_call 9; refine (lj_awake H0).mono ?_; clear H0; rintro e w1 ⟨rfl, h1⟩; obtain ⟨a0, a1, a2, a3, a4, a5, a6, a7, a8, a9, a10, a11, a12⟩ := lj_all h1)
      | (go_at_call 10; refine (lj_small HS h1).mono ?_; clear h1; rintro e w2 ⟨rfl, h2⟩))
    go_ret
    exact ⟨rfl, h2.out.below⟩
  have HS := Lib.hid hsm
  clear hsm
  cases hq : mayC v.c
  · have HQ := Lib.hid hq
    clear hq
    unfold V.val
    go_enter Try.func6, Try.ntmps6
    go_wp2_with (first
      | (go_at_call 9; refine (lj_awake H0).mono ?_; clear H0; rintro e w1 ⟨rfl, h1⟩; obtain ⟨a0, a1, a2, a3, a4, a5, a6, a7, a8, a9, a10, a11, a12⟩ := lj_all h1)
      | (go_at_call 10; refine (lj_small HS h1).mono ?_; clear h1 a0 a1 a2 a3 a4 a5 a6 a7 a8 a9 a10 a11 a12; rintro e w2 ⟨rfl, h2⟩; obtain ⟨a0, a1, a2, a3, a4, a5, a6, a7, a8, a9, a10, a11, a12⟩ := lj_all h2)
      | (go_at_call 11; refine (lj_check HS HQ h2).mono ?_; clear h2; rintro e w3 ⟨rfl, h3⟩))
    go_ret
    exact ⟨rfl, h3.out.below⟩
  have HQ := Lib.hid hq
  have HM := Lib.hid ((mayC_iff v.c).1 hq)
  clear hq

  have hm := HM.out
  have hnb := hm.nb
  have hcb := cars_bd _ hm.bs
  have HBS := Lib.hid hm.bs
  have hCA := fun W (h : V.In W v) => Cars_any v hm.bs (by omega) W h
  have HB0 := Lib.hid (fun (y : Int) (hy : y ≤ 1000000) W (h : V.In W v) => Bank_any v hm.bs (by omega) y hy W h)
  obtain ⟨t, ht⟩ : ∃ t, cars v.c.banks = t := ⟨_, rfl⟩
  rw [ht] at hCA hcb
  have HT := Lib.hid ht
  have HCA := Lib.hid hCA
  have ht0 : 0 ≤ t := by omega
  have ht1 : t ≤ 64 := by omega
  have h00 : At v.c.banks 0 0 0 := by
    obtain ⟨x, hx⟩ := at_bank v.c.banks 0 (by omega)
    have := (ok_at hm.bs hx).1
    exact ⟨0, x, hx, rfl, by simp [cars], by simp [cars]; omega, by simp [cars]⟩
  have HAT0 := Lib.hid h00
  have HNB := Lib.hid hnb
  clear hm hcb hCA ht h00 hnb
  unfold V.val
  go_enter Try.func6, Try.ntmps6
  go_wp2_with (first
      | (go_at_call 9; refine (lj_awake H0).mono ?_; clear H0; rintro e w1 ⟨rfl, h1⟩; obtain ⟨a0, a1, a2, a3, a4, a5, a6, a7, a8, a9, a10, a11, a12⟩ := lj_all h1)
      | (go_at_call 10; refine (lj_small HS h1).mono ?_; clear h1 a0 a1 a2 a3 a4 a5 a6 a7 a8 a9 a10 a11 a12; rintro e w2 ⟨rfl, h2⟩; obtain ⟨a0, a1, a2, a3, a4, a5, a6, a7, a8, a9, a10, a11, a12⟩ := lj_all h2)
      | (go_at_call 11; refine (lj_check HS HQ h2).mono ?_; clear h2 a0 a1 a2 a3 a4 a5 a6 a7 a8 a9 a10 a11 a12; rintro e w3 ⟨rfl, h3⟩; obtain ⟨a0, a1, a2, a3, a4, a5, a6, a7, a8, a9, a10, a11, a12⟩ := lj_all h3; have hlt3 : w.heap.size < w3.heap.size := h3.out.box.lt))
  go_loopw [5, 6, 7] (fun last n car wr => ∃ (j n' l' : Int), 0 ≤ j ∧ j ≤ t ∧ car = .int .i64 j ∧ n = .int .i64 n' ∧ last = .int .i64 l' ∧ At v.c.banks j l' n' ∧ LJ w wr w.heap.size v) (fun _ _ car _ => (65 - intOf car).toNat)
  case atStart => exact ⟨0, 0, 0, by omega, by omega, rfl, rfl, rfl, HAT0.out, h3.out⟩
  case round =>
    obtain ⟨j, n, l', hj0, hj1, rfl, rfl, rfl, hat, hlj⟩ := hrel
    have H4 := Lib.hid hlj
    clear hlj h3 a0 a1 a2 a3 a4 a5 a6 a7 a8 a9 a10 a11 a12
    obtain ⟨a0, a1, a2, a3, a4, a5, a6, a7, a8, a9, a10, a11, a12⟩ := lj_all H4
    obtain ⟨k, x, hx, rfl, hle, hle2, rfl⟩ := hat
    have hklt := (List.getElem?_eq_some_iff.1 hx).1
    obtain ⟨b, o, hA, hbB, hc0⟩ := sees_bank HIN.out.bs hx
    have HA0 : Hid (∀ W, Hid (LJ w W w.heap.size v) → W.cell? ⟨w.heap.size, 0, none⟩ = some (.slice (some ⟨b, o, none⟩) v.c.banks.length v.cb)) := Lib.hid fun W h => by rw [← hA]; exact h.out.box.c0
    have HC0 : Hid (∀ W, Hid (LJ w W w.heap.size v) → W.cell? ⟨b, o + k * 7, none⟩ = some (.int .i64 x.cars)) := Lib.hid fun W h => (hc0.next h.out.below hbB).c0
    have hxo := (ok_at HBS.out hx).1
    have hk8 := HNB.out.2
    have HX := Lib.hid hx
    clear hA hc0 hx
    by_cases hjt : j < t
    · have HBA := Lib.hid (HB0.out j (by omega))
      have rk0 : (0 : Int) ≤ (k : Int) := by omega
      have rk1 : (k : Int) < (v.c.banks.length : Int) := by omega
      have rk2 : (k : Int) ≤ 8 := by omega
      have rk3 : (v.c.banks.length : Int) ≤ 8 := by omega
      by_cases hin : j < cars (v.c.banks.take k) + x.cars
      · have hbk := bankOf_in v.c.banks HBS.out k x HX.out j hle hin
        rw [hbk] at HBA
        have d1 : decide ((k : Int) < (k : Int)) = false := by simp
        have d2 : decide ((k : Int) + 1 < (k : Int)) = false := by simp; omega
        have d3 : decide ((v.c.banks.length : Int) ≤ (k : Int)) = false := by simp; omega
        have d4 : ((k : Int) != (k : Int)) = false := by simp
        have HAT : Hid (At v.c.banks (j + 1) k (j - cars (v.c.banks.take k) + 1)) := Lib.hid ⟨k, x, HX.out, rfl, by omega, by omega, by omega⟩
        have n0 : 0 ≤ j - cars (v.c.banks.take k) := by omega
        have n1 : j - cars (v.c.banks.take k) ≤ 8 := by omega
        generalize j - cars (v.c.banks.take k) = n at *
        clear hbk hle hle2 hin hklt hk8
        go_wp2_with (first
          | (go_at_call 16; refine (lj_of H4 (HCA.out _ H4.out.inn)).mono ?_; clear a0 a1 a2 a3 a4 a5 a6 a7 a8 a9 a10 a11 a12; rintro e w5 ⟨rfl, h5⟩; obtain ⟨a0, a1, a2, a3, a4, a5, a6, a7, a8, a9, a10, a11, a12⟩ := lj_all h5)
          | (go_at_call 14; refine (lj_of h5 (HBA.out _ h5.out.inn)).mono ?_; clear h5 a0 a1 a2 a3 a4 a5 a6 a7 a8 a9 a10 a11 a12; rintro e w6 ⟨rfl, h6⟩; have a0 := HA0.out _ h6; have c0 := HC0.out _ h6))
        go_roundw
        case rel => exact ⟨j + 1, n + 1, k, by omega, by omega, rfl, rfl, rfl, HAT.out, h6.out⟩
        case measure => simp [intOf]; omega
      · have hje : j = cars (v.c.banks.take k) + x.cars := by omega
        obtain ⟨y, hy, hty, hy1⟩ := at_next HBS.out HX.out (by rw [HT.out]; omega)
        have hk1 := (List.getElem?_eq_some_iff.1 hy).1
        have hbk := bankOf_in v.c.banks HBS.out (k + 1) y hy j (by omega) (by omega)
        have hkk : ((k + 1 : Nat) : Int) = (k : Int) + 1 := by omega
        rw [hbk, hkk] at HBA
        have d1 : decide ((k : Int) + 1 < (k : Int)) = false := by simp; omega
        have d2 : decide ((k : Int) + 1 < (k : Int) + 1) = false := by simp
        have d3 : decide ((v.c.banks.length : Int) ≤ (k : Int) + 1) = false := by simp; omega
        have d4 : ((k : Int) + 1 != (k : Int)) = true := by simp; omega
        have d5 : (x.cars != x.cars) = false := by simp
        have HAT : Hid (At v.c.banks (j + 1) ((k : Int) + 1) 1) := Lib.hid ⟨k + 1, y, hy, by omega, by omega, by omega, by omega⟩
        have hn : j - cars (v.c.banks.take k) = x.cars := by omega
        rw [hn]
        have ex1 : x.cars ≤ 8 := hxo.2
        have ex0 : 1 ≤ x.cars := hxo.1
        obtain ⟨xc, xr⟩ := x
        simp only at *
        clear hbk hle hle2 hin hklt hje hn hty hkk hy hy1 hxo
        go_wp2_with (first
          | (go_at_call 16; refine (lj_of H4 (HCA.out _ H4.out.inn)).mono ?_; clear a0 a1 a2 a3 a4 a5 a6 a7 a8 a9 a10 a11 a12; rintro e w5 ⟨rfl, h5⟩; obtain ⟨a0, a1, a2, a3, a4, a5, a6, a7, a8, a9, a10, a11, a12⟩ := lj_all h5)
          | (go_at_call 14; refine (lj_of h5 (HBA.out _ h5.out.inn)).mono ?_; clear h5 a0 a1 a2 a3 a4 a5 a6 a7 a8 a9 a10 a11 a12; rintro e w6 ⟨rfl, h6⟩; have a0 := HA0.out _ h6; have c0 := HC0.out _ h6))
        go_roundw
        case rel => exact ⟨j + 1, 1, (k : Int) + 1, by omega, by omega, rfl, rfl, rfl, HAT.out, h6.out⟩
        case measure => simp [intOf]; omega
    · obtain rfl : j = t := by omega
      obtain ⟨e1, e2⟩ := at_end HBS.out HX.out (by rw [HT.out]; exact hle2)
      rw [HT.out] at e2
      have hn : j - cars (v.c.banks.take k) = x.cars := by omega
      rw [hn]
      have dj : decide (j < j) = false := by simp
      have rk0 : (0 : Int) ≤ (k : Int) := by omega
      have rk1 : (k : Int) < (v.c.banks.length : Int) := by omega
      have rk2 : (k : Int) ≤ 8 := by omega
      have rk3 : (v.c.banks.length : Int) ≤ 8 := by omega
      have d1 : ((k : Int) == (v.c.banks.length : Int) - 1) = true := by simp; omega
      have d2 : (x.cars == x.cars) = true := by simp
      obtain ⟨xc, xr⟩ := x
      simp only at *
      clear e1 e2 hn hle hle2 hklt
      go_wp2_with (first
        | (go_at_call 16; refine (lj_of H4 (HCA.out _ H4.out.inn)).mono ?_; clear a0 a1 a2 a3 a4 a5 a6 a7 a8 a9 a10 a11 a12; rintro e w5 ⟨rfl, h5⟩; have a0 := HA0.out _ h5; have c0 := HC0.out _ h5))
      go_ret
      exact ⟨rfl, h5.out.below⟩

end Go.Proofs.Ytkicijgempccfaa.Walk
