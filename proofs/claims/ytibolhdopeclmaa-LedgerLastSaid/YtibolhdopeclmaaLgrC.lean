/- The contract of fitting: how many permits come to a budget. -/
import Derived.Test.YtibolhdopeclmaaLgrA
import Derived.WalkMore
import Derived.Deep.LoopGhost
namespace Go.Proofs.Ytibolhdopeclmaa.Lgr
open Go.RowKit Go.Proofs.Ytibolhdopeclmaa.LgrP Go.Proofs.Ytibolhdopeclmaa.Open Go.Proofs.Ytibolhdopeclmaa.Sees Go.Proofs.Ytibolhdopeclmaa.Box Go.Proofs.Ytibolhdopeclmaa.Held Go.Proofs.Ytibolhdopeclmaa.SatP
set_option linter.unusedVariables false

set_option maxRecDepth 100000 in
set_option maxHeartbeats 3200000 in
theorem fitting_any (l : List Pm) (A : Option Addr) (n c : Nat) (b : Int) (hb : 0 ≤ b ∧ b ≤ 1048576) (w : World) (hl : l.length = n) (hc : n ≤ c) (hn : c ≤ maxLen) (hs : Sees w w.heap.size A (pms l)) (hp : ∀ p ∈ l, 0 ≤ p.p ∧ p.p ≤ 1048576) :
    Calls Try.prog 15 #[.slice A n c, .int .i64 b] w (Says w (.int .i64 (fit l b))) := by
  unfold maxLen at hn
  have HL := Lib.hid hl
  have HS := Lib.hid hs
  have HP := Lib.hid hp
  clear hl hs hp
  go_enter Try.func15, Try.ntmps15
  go_wp2
  go_step3
  go_wp2
  go_step3
  go_wp2
  go_loopg [5, 6, 8] (n + 1) (fun g a _ _ wr => ∃ s : Nat, g = s + 1 ∧ s ≤ n ∧ a = .int .i64 s ∧ Hid (Below w.heap.size w wr) ∧ Hid (∀ j, s < j → j ≤ n → b < tot (pk (l.take j))))
  case atStart => exact ⟨n, rfl, Nat.le_refl _, rfl, Lib.hid (Below.refl _ _), Lib.hid fun j h1 h2 => by omega⟩
  case round =>
    obtain ⟨s, rfl, hsn, rfl, hB, hM⟩ := hrel
    have i0 : (0 : Int) ≤ (s : Int) := by omega
    have i1 : (s : Int) ≤ (c : Int) := by omega
    have e4 : IntKind.i64.wrap ((s : Int) - 1) = (s : Int) - 1 := IntWalk.i64_in _ (by omega)
    go_wp2
    go_loopg [6, 8, 18] s (fun g v _ a wr => ∃ (k : Nat) (x : Int), k + g = s ∧ a = .int .i64 k ∧ v = .int .i64 x ∧ 0 ≤ x ∧ x ≤ 1048576 ∧ Hid (x = b - tot (pk (l.take k))) ∧ Hid (Below w.heap.size w wr))
    case atStart => exact ⟨0, b, by omega, rfl, rfl, hb.1, hb.2, Lib.hid (by simp [pk, tot]), hB⟩
    case round =>
      clear hB
      obtain ⟨k, x, hk, rfl, rfl, x0, x1, hx, hB⟩ := hrel
      by_cases hlt : k < s
      · obtain ⟨q, hq⟩ : ∃ q, l[k]? = some q := ⟨_, List.getElem?_eq_getElem (by rw [HL.out]; omega)⟩
        obtain ⟨bb, o, rfl, hbb, c0, c1⟩ := pm_cells (HS.out.below hB.out (Nat.le_refl _)) k q hq
        have hqp := HP.out q (List.mem_of_getElem? hq)
        have HT := Lib.hid (tot_take_succ hq)
        have HLT := Lib.hid hlt
        clear hq
        obtain ⟨qc, qp⟩ := q
        simp only at c0 c1 hqp HT
        have i2 : (k : Int) < (s : Int) := by omega
        have e3 : IntKind.i64.wrap ((k : Int) + 1) = ((k + 1 : Nat) : Int) := by rw [IntWalk.i64_in _ (by omega)]; rfl
        obtain ⟨y, hy⟩ : ∃ y, x - qp = y := ⟨_, rfl⟩
        have e5 : IntKind.i64.wrap (x - qp) = y := by rw [hy]; exact IntWalk.i64_in _ (by omega)
        have hj1 := Lib.hid (((J.start w).next hB.out).push #[.int .i64 qc, .int .i64 qp] 37)
        obtain ⟨p0, p1⟩ := (hj1.out.bx 0 rfl).c2
        have HY := Lib.hid hy
        by_cases hneg : y < 0
        · have HN := Lib.hid hneg
          clear hy hqp x0 x1
          go_wp2
          go_roundg s
          case measure => omega
          case rel => exact ⟨s - 1, by have := HLT.out; omega, by omega, by have := HLT.out; congr 1; omega, Lib.hid hj1.out.below, Lib.hid fun j h1 h2 => by
            have h3 := HLT.out
            have h4 := HN.out
            have h5 := HT.out
            have h6 := hx.out
            have h7 := HY.out
            have h8 := tot_take_le HP.out (k + 1) j (by omega)
            omega⟩
        · have HN := Lib.hid hneg
          have HQ := Lib.hid hqp
          have HX := Lib.hid x1
          clear hy hqp x0 x1
          go_wp2
          go_roundg (s - (k + 1))
          case measure => have := HLT.out; omega
          case rel => exact ⟨k + 1, y, by have := HLT.out; omega, rfl, rfl, by have := HN.out; omega, by have := HQ.out; have := HX.out; have := HY.out; omega, Lib.hid (by rw [HT.out, ← HY.out, hx.out]; omega), Lib.hid hj1.out.below⟩
      · obtain rfl : k = s := by omega
        have HF : Hid (tot (pk (l.take k)) ≤ b) := Lib.hid (by have := hx.out; omega)
        go_wp2
        try rw [Exit.noGoto_ret]
        go_ret
        exact ⟨ret_int (by rw [fit_eq (by rw [HL.out]; exact hsn) (.inr HF.out) (by rw [HL.out]; exact hM.out)]), hB.out⟩

end Go.Proofs.Ytibolhdopeclmaa.Lgr
