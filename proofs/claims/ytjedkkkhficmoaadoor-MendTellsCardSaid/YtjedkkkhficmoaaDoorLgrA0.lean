/- Contracts of ledger's small functions. -/
import Derived.Test.YtjedkkkhficmoaaDoorLgrP
import Derived.Test.YtjedkkkhficmoaaDoorHeld
import Derived.Test.YtjedkkkhficmoaaDoorSeesN
import Derived.Lib.SliceRun
namespace Go.Proofs.YtjedkkkhficmoaaDoor.Lgr
open Go.RowKit Go.Proofs.YtjedkkkhficmoaaDoor.LgrP Go.Proofs.YtjedkkkhficmoaaDoor.Open Go.Proofs.YtjedkkkhficmoaaDoor.Sees Go.Proofs.YtjedkkkhficmoaaDoor.Box Go.Proofs.YtjedkkkhficmoaaDoor.Held
set_option linter.unusedVariables false
set_option maxRecDepth 100000

theorem isPower_any (n : Int) (w : World) : Calls Tryd.prog 27 #[.int .i64 n] w (Says w (.bool (pwr n))) := by
  unfold pwr
  by_cases h0 : 0 ≤ n
  · by_cases h1 : n ≤ 1048576
    all_goals
      go_enter Tryd.func27, Tryd.ntmps27
      go_wp2
      go_ret
      exact ⟨ret_bool (by simp; omega), Below.refl _ _⟩
  · go_enter Tryd.func27, Tryd.ntmps27
    go_wp2
    go_ret
    exact ⟨ret_bool (by simp; omega), Below.refl _ _⟩

theorem isPermit_any (p : Pm) (w : World) : Calls Tryd.prog 28 #[p.val] w (Says w (.bool (okP p))) := by
  obtain ⟨c, q⟩ := p
  have HP : Hid (∀ W, Calls Tryd.prog 27 #[.int .i64 q] W (Says W (.bool (pwr q)))) := Lib.hid fun W => isPower_any q W
  have hj := Lib.hid (J.one w #[.int .i64 c, .int .i64 q] 54)
  obtain ⟨a0, a1⟩ := (hj.out.bx 0 rfl).c2
  unfold okP Pm.val
  simp only
  generalize pwr q = y at *
  by_cases h0 : 0 ≤ c
  · by_cases h1 : c < 64
    · go_enter Tryd.func28, Tryd.ntmps28
      go_wp2_with (go_at_call 27; (with_reducible refine (HP.out _).mono ?_); clear HP; rintro e w1 ⟨rfl, hb⟩)
      go_ret
      exact ⟨ret_bool (by simp [h0, h1]), (hj.out.next hb).below⟩
    · go_enter Tryd.func28, Tryd.ntmps28
      go_wp2
      go_ret
      exact ⟨ret_bool (by simp; intros; omega), hj.out.below⟩
  · go_enter Tryd.func28, Tryd.ntmps28
    go_wp2
    go_ret
    exact ⟨ret_bool (by simp; intros; omega), hj.out.below⟩

theorem place1_any (p : Pm) (car : Int) (X : Nat) (w : World) (hX : Bx w X #[.int .i64 car]) : Calls Tryd.prog 39 #[p.val, .pointer (some ⟨X, 0, none⟩)] w (Says w (.bool (decide (p.c = car)))) := by
  obtain ⟨c, q⟩ := p
  have hj := Lib.hid (J.one w #[.int .i64 c, .int .i64 q] 54)
  obtain ⟨a0, a1⟩ := (hj.out.bx 0 rfl).c2
  have a2 := (hX.alloc (.cells #[.int .i64 c, .int .i64 q] 54)).c1
  clear hX
  unfold Pm.val
  simp only
  go_enter Tryd.func39, Tryd.ntmps39
  go_wp2
  go_ret
  exact ⟨rfl, hj.out.below⟩

set_option maxHeartbeats 1600000 in
theorem index_any (l : List Pm) (A : Option Addr) (n c : Nat) (X : Nat) (car : Int) (w : World) (hl : l.length = n) (hn : n ≤ maxLen) (hs : Sees w w.heap.size A (pms l)) (hX : Bx w X #[.int .i64 car]) :
    Calls Tryd.prog 38 #[.slice A n c, .func (.func 39) #[] #[.pointer (some ⟨X, 0, none⟩)]] w (Says w (.int .i64 (idx l car))) := by
  unfold maxLen at hn
  have HL := Lib.hid hl
  have HS := Lib.hid hs
  have HX := Lib.hid hX
  clear hl hs hX
  go_enter Tryd.func38, Tryd.ntmps38
  go_wp2
  go_loopw [5, 8] (fun _ a wr => ∃ k : Nat, k ≤ n ∧ a = .int .i64 k ∧ Hid (Below w.heap.size w wr) ∧ Hid (∀ (j : Nat) (q : Pm), j < k → l[j]? = some q → q.c ≠ car)) (fun _ a _ => n - (intOf a).toNat)
  case atStart => exact ⟨0, Nat.zero_le _, rfl, Lib.hid (Below.refl _ _), Lib.hid fun j q hj => absurd hj (Nat.not_lt_zero _)⟩
  case round =>
    obtain ⟨k, hk, rfl, hB, hno⟩ := hrel
    by_cases hlt : k < n
    · obtain ⟨q, hq⟩ : ∃ q, l[k]? = some q := ⟨_, List.getElem?_eq_getElem (by rw [HL.out]; exact hlt)⟩
      obtain ⟨b, o, rfl, hb, c0, c1⟩ := pm_cells (HS.out.below hB.out (Nat.le_refl _)) k q hq
      have HC : Hid (Calls Tryd.prog 39 #[.agg #[.int .i64 q.c, .int .i64 q.p], .pointer (some ⟨X, 0, none⟩)] wr (Says wr (.bool (decide (q.c = car))))) := Lib.hid (place1_any q car X wr (HX.out.below hB.out HX.out.lt))
      have HQ := Lib.hid hq
      clear hq
      have i1 : (k : Int) < (n : Int) := by omega
      have e3 : IntKind.i64.wrap ((k : Int) + 1) = ((k + 1 : Nat) : Int) := by rw [IntWalk.i64_in _ (by omega)]; rfl
      by_cases he : q.c = car
      · have HE := Lib.hid he
        have hd : decide (q.c = car) = true := decide_eq_true he
        rw [hd] at HC
        clear he hd
        generalize hqc : q.c = qc at c0 HC
        generalize hqp : q.p = qp at c1 HC
        have HQC := Lib.hid hqc
        clear hqc hqp
        go_wp2_with (go_at_call 39; (with_reducible refine HC.out.mono ?_); clear HC; rintro e w1 ⟨rfl, h1⟩)
        go_ret
        exact ⟨ret_int (idx_hit HQ.out HE.out hno.out).symm, below_more hB.out h1 (Nat.le_refl _)⟩
      · have HE := Lib.hid he
        have hd : decide (q.c = car) = false := decide_eq_false he
        rw [hd] at HC
        clear he hd
        generalize hqc : q.c = qc at c0 HC
        generalize hqp : q.p = qp at c1 HC
        have HQC := Lib.hid hqc
        clear hqc hqp
        go_wp2_with (go_at_call 39; (with_reducible refine HC.out.mono ?_); clear HC; rintro e w1 ⟨rfl, h1⟩)
        go_roundw
        case rel => exact ⟨k + 1, by omega, rfl, Lib.hid (below_more hB.out h1 (Nat.le_refl _)), Lib.hid fun j r hj hr => by
          by_cases e : j = k
          · subst e
            have := HQ.out.symm.trans hr
            injection this with this
            subst this
            exact HE.out
          · exact hno.out j r (by omega) hr⟩
        case measure => simp [intOf]; omega
    · obtain rfl : k = n := by omega
      go_wp2
      go_ret
      exact ⟨ret_int (idx_miss fun j q hj => hno.out j q (by have := (List.getElem?_eq_some_iff.1 hj).1; rw [HL.out] at this; exact this) hj).symm, hB.out⟩

theorem place_any (l : List Pm) (A : Option Addr) (n c : Nat) (car : Int) (w : World) (hl : l.length = n) (hn : n ≤ maxLen) (hs : Sees w w.heap.size A (pms l)) :
    Calls Tryd.prog 29 #[.slice A n c, .int .i64 car] w (Says w (.int .i64 (idx l car))) := by
  have hmf : ∀ (fn : Fn) (first cap : Array Value) (w : World), (Instr.makeFunc fn first cap).run Tryd.prog w = .ok (.func fn first cap) w := fun _ _ _ _ => rfl
  have HI := Lib.hid (index_any l A n c w.heap.size car (w.alloc (.cells #[.int .i64 car] 3)) hl hn ((hs.below below_box (Nat.le_refl _)).more below_box.size) (Bx.new w _ _))
  clear hl hn hs
  generalize idx l car = r at *
  go_enter Tryd.func29, Tryd.ntmps29
  go_wp2_with (go_at_call 38; (with_reducible refine HI.out.mono ?_); clear HI; rintro e w1 ⟨rfl, h1⟩)
  go_ret
  exact ⟨rfl, below_more below_box h1 (by simp)⟩

theorem infoPermit : (Tryd.prog.info? 54).map (fun i => (i.zero, i.size, i.bytes)) = some (some (.agg #[.int .i64 0, .int .i64 0]), 2, 16) := by kernel_rfl

end Go.Proofs.YtjedkkkhficmoaaDoor.Lgr
