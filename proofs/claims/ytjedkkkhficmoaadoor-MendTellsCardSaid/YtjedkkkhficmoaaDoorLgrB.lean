/- The contract of Sum: what all permits come to. -/
import Derived.Test.YtjedkkkhficmoaaDoorLgrA0
import Derived.Test.YtjedkkkhficmoaaDoorSatE3
import Derived.LoopN
import Derived.Deep.OwnRows
namespace Go.Proofs.YtjedkkkhficmoaaDoor.Lgr
open Go.RowKit Go.Proofs.YtjedkkkhficmoaaDoor.LgrP Go.Proofs.YtjedkkkhficmoaaDoor.Open Go.Proofs.YtjedkkkhficmoaaDoor.Sees Go.Proofs.YtjedkkkhficmoaaDoor.Box Go.Proofs.YtjedkkkhficmoaaDoor.Held
set_option linter.unusedVariables false
set_option maxRecDepth 100000

theorem infoI64 : (Tryd.prog.info? 2).map (fun i => (i.zero, i.size, i.bytes)) = some (some (.int .i64 0), 1, 8) := by kernel_rfl
theorem jtwo {w W : World} {X Y : Nat} {cs ds : Array Value} (h : J w W [(Y, ds), (X, cs)]) : Bx W Y ds ∧ Bx W X cs := ⟨h.bx 0 rfl, h.bx 1 rfl⟩

set_option maxRecDepth 100000 in
set_option maxHeartbeats 3200000 in
theorem sum_any (x : Lg) (w : World) (hx : x.In w) (hn : x.l.length ≤ 65536) : Calls Tryd.prog 17 #[x.val] w (Says w (.int .i64 (sm x.l))) := by
  have hmk : ∀ (n : Nat), n ≤ 65536 → ∀ W, (Instr.makeSlice 80 (.int .i64 (n : Int)) (.int .i64 (n : Int))).run Tryd.prog W = .ok (.slice (some ⟨W.heap.size, 0, none⟩) n n) (W.alloc (.cells (madeCells #[.int .i64 0] n) 2)) := fun n h W =>
    run_make_row' 80 2 (.int .i64 0) 8 Tryd.underlying80 infoI64 rfl .i64 .i64 n (by omega) (by omega) W
  obtain ⟨b, m, k, A, cap, l⟩ := x
  obtain ⟨_, _, hs⟩ := hx
  simp only at hs hn
  have HS := Lib.hid hs
  have hmk := hmk l.length hn
  have hj := Lib.hid (J.one w #[.int .i64 b, .int .i64 m, .int .i64 k, .slice A l.length cap] 32)
  obtain ⟨a0, a1, a2, a3⟩ := (hj.out.bx 0 rfl).c4
  unfold Lg.val
  simp only
  clear hs
  generalize hl : l.length = n at *
  have HL := Lib.hid hl
  clear hl
  have hj2 := Lib.hid (hj.out.push (madeCells #[.int .i64 0] n) 2)
  rw [World.size_alloc] at hj2
  obtain ⟨b0, b1, b2, b3⟩ := (hj2.out.bx 1 rfl).c4
  have hsz : (madeCells #[.int .i64 0] n).size = n := by rw [size_madeCells]
  have HZ := Lib.hid hsz
  clear hsz
  go_enter Tryd.func17, Tryd.ntmps17
  go_wp2
  clear hmk a0 a1 a2 a3 b0 b1 b2 b3
  go_loopw [4, 5, 15] (fun _ _ a wr => ∃ (k : Nat) (cs : Array Value), k ≤ n ∧ a = .int .i64 k ∧ cs.size = n ∧ Hid (∀ (j : Nat) (p : Pm), j < k → l[j]? = some p → cs[j]? = some (.int .i64 p.p)) ∧ Hid (J w wr [(w.heap.size + 1, cs)])) (fun _ _ a _ => n - (intOf a).toNat)
  case atStart => exact ⟨0, _, Nat.zero_le _, rfl, HZ.out, Lib.hid fun j p hj => absurd hj (Nat.not_lt_zero _), Lib.hid (hj2.out.less (by simp))⟩
  case round =>
    clear hj hj2
    obtain ⟨i, cs, hi, rfl, hcs, hall, hj⟩ := hrel
    by_cases hlt : i < n
    · obtain ⟨q, hq⟩ : ∃ q, l[i]? = some q := ⟨_, List.getElem?_eq_getElem (by rw [HL.out]; exact hlt)⟩
      obtain ⟨bb, o, rfl, hb, c0, c1⟩ := pm_cells (HS.out.below hj.out.below (Nat.le_refl _)) i q hq
      have HQ := Lib.hid hq
      have HB := Lib.hid hb
      have HLT := Lib.hid hlt
      clear hq
      obtain ⟨qc, qp⟩ := q
      simp only at c0 c1
      have hc2 : wr.cell? ⟨w.heap.size + 1, i, none⟩ = some cs[i] := (hj.out.bx 0 rfl).cell (Array.getElem?_eq_getElem (by omega))
      have hf2 := (hj.out.bx 0 rfl).fr i
      have i1 : (i : Int) < (n : Int) := by omega
      have e3 : IntKind.i64.wrap ((i : Int) + 1) = ((i + 1 : Nat) : Int) := by rw [IntWalk.i64_in _ (by omega)]; rfl
      have hj1 := Lib.hid (hj.out.push #[.int .i64 qc, .int .i64 qp] 54)
      obtain ⟨p0, p1⟩ := (hj1.out.bx 0 rfl).c2
      have hc3 : (wr.alloc (.cells #[.int .i64 qc, .int .i64 qp] 54)).cell? ⟨w.heap.size + 1, i, none⟩ = some cs[i] := (hj1.out.bx 1 rfl).cell (Array.getElem?_eq_getElem (by omega))
      generalize cs[i] = old at hc2 hc3
      have hf3 := (hj1.out.bx 1 rfl).fr i
      go_wp2
      go_roundw
      case rel => exact ⟨i + 1, cs.setIfInBounds i (.int .i64 qp), by omega, rfl, by simpa using hcs, Lib.hid fun j p hj hp => by
        by_cases e : j = i
        · subst e
          have := HQ.out.symm.trans hp
          injection this with this
          subst this
          have h2 : j < cs.size := by rw [hcs]; exact HLT.out
          simp [h2]
        · rw [Array.getElem?_setIfInBounds_ne (by omega)]
          exact hall.out j p (by omega) hp, Lib.hid ((hj1.out.less (bs' := [(w.heap.size + 1, cs)]) (by simp)).put (by omega) (by simp) i _)⟩
      case measure => simp [intOf]; omega
    · obtain rfl : i = n := by omega
      have HC := Lib.hid (Sat.Sum_any (pk l) (some ⟨w.heap.size + 1, 0, none⟩) i i wr (by rw [pk_len, HL.out]) (by unfold maxLen; omega) (.inr ⟨_, 0, rfl, (hj.out.bx 0 rfl).lt, fun j u hu => by
        rw [Nat.zero_add]
        unfold nums pk at hu
        rw [List.getElem?_map, List.getElem?_map] at hu
        obtain ⟨y, hy, rfl⟩ := Option.map_eq_some_iff.1 hu
        obtain ⟨p, hp, rfl⟩ := Option.map_eq_some_iff.1 hy
        exact (hj.out.bx 0 rfl).cell (hall.out j p (by have := (List.getElem?_eq_some_iff.1 hp).1; rw [HL.out] at this; exact this) hp)⟩))
      have hsm : SatP.sumV (pk l) = sm l := rfl
      rw [hsm] at HC
      clear hsm
      generalize SatP.sumM (pk l) = mm at *
      generalize sm l = z at *
      unfold Sat.Pair at HC
      go_wp2_with (go_at_call 32; (with_reducible refine HC.out.mono ?_); clear HC; rintro e w1 ⟨rfl, h1⟩)
      go_ret
      exact ⟨rfl, (hj.out.next h1).below⟩

end Go.Proofs.YtjedkkkhficmoaaDoor.Lgr
