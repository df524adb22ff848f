/- The reference's Same: of two ledgers that are the same it answers true. -/
import Derived.Test.YtgbgbodhpahceaaDoorJrnF
import Derived.Test.YtgbgbodhpahceaaDoorLgrP
namespace Go.Proofs.YtgbgbodhpahceaaDoor.Jrn
open Go.RowKit Go.Proofs.YtgbgbodhpahceaaDoor.Plain Go.Proofs.YtgbgbodhpahceaaDoor.Sees Go.Proofs.YtgbgbodhpahceaaDoor.Oct Go.Proofs.YtgbgbodhpahceaaDoor.Crc Go.Proofs.YtgbgbodhpahceaaDoor.Box Go.Proofs.YtgbgbodhpahceaaDoor.Held Go.Proofs.YtgbgbodhpahceaaDoor.JrnP Go.Proofs.YtgbgbodhpahceaaDoor.Open Go.Proofs.YtgbgbodhpahceaaDoor.LgrP
set_option linter.unusedVariables false
set_option maxRecDepth 100000

theorem neq_rp (c p : Int) : ∀ W, (Go.binOp .neq 84 (.agg #[.int .i64 c, .int .i64 p]) (.agg #[.int .i64 c, .int .i64 p])).run Tryd.prog W = .ok (.bool false) W := by
  intro W
  simp [go_sem, Tryd.underlying84, Tryd.underlying3]

set_option maxHeartbeats 6400000 in
theorem same_any (x y : Lg) (w : World) (hx : x.In w) (hy : y.In w) (hxl : x.l.length ≤ 100) (hb : y.b = x.b) (hm : y.m = x.m) (hk : y.k = x.k) (hl : y.l = x.l) :
    Calls Tryd.prog 16 #[x.val, y.val] w fun e w' => e = .returned (.bool true) ∧ Below w.heap.size w w' := by
  obtain ⟨_, _, hsx⟩ := hx
  obtain ⟨_, _, hsy⟩ := hy
  obtain ⟨b, m, k, A, cap, l⟩ := x
  obtain ⟨b', m', k', A', cap', l'⟩ := y
  simp only at hb hm hk hl hsx hsy hxl
  subst hb hm hk hl
  unfold Lg.val
  simp only
  obtain ⟨n, hn⟩ : ∃ n, l'.length = n := ⟨_, rfl⟩
  rw [hn] at hxl ⊢
  have HN := Lib.hid hn
  have HX := Lib.hid hsx
  have HY := Lib.hid hsy
  have hj := Lib.hid ((J.one w #[.int .i64 b', .int .i64 m', .int .i64 k', .slice A n cap] 34).push #[.int .i64 b', .int .i64 m', .int .i64 k', .slice A' n cap'] 34)
  simp only [World.size_alloc] at hj
  obtain ⟨a0, a1, a2, a3⟩ := (hj.out.bx 0 rfl).c4
  obtain ⟨b0, b1, b2, b3⟩ := (hj.out.bx 1 rfl).c4
  clear hn hsx hsy
  go_enter Tryd.func16, Tryd.ntmps16
  go_wp2
  clear a0 a1 a2 a3 b0 b1 b2 b3
  go_loopw [5] (fun i wr => ∃ q : Nat, q ≤ n ∧ i = .int .i64 q ∧ Hid (J w wr [(w.heap.size + 1, #[.int .i64 b', .int .i64 m', .int .i64 k', .slice A' n cap']), (w.heap.size, #[.int .i64 b', .int .i64 m', .int .i64 k', .slice A n cap])])) (fun i _ => n - (intOf i).toNat)
  case atStart => exact ⟨0, Nat.zero_le _, rfl, hj⟩
  case round =>
    obtain ⟨q, hq, rfl, hjr⟩ := hrel
    clear hj
    obtain ⟨a0, a1, a2, a3⟩ := (hjr.out.bx 0 rfl).c4
    obtain ⟨b0, b1, b2, b3⟩ := (hjr.out.bx 1 rfl).c4
    by_cases hlt : q < n
    · obtain ⟨p, bb, o, hp, rfl, hbb, c0, c1⟩ := pm_at (HX.out.below hjr.out.below (Nat.le_refl _)) (i := q) (by rw [HN.out]; exact hlt)
      obtain ⟨p', bb', o', hp', rfl, hbb', d0, d1⟩ := pm_at (HY.out.below hjr.out.below (Nat.le_refl _)) (i := q) (by rw [HN.out]; exact hlt)
      obtain rfl : p' = p := Option.some.inj (hp'.symm.trans hp)
      obtain ⟨pc, pp⟩ := p'
      simp only at c0 c1 d0 d1
      have i1 : (q : Int) < (n : Int) := by omega
      have e3 : IntKind.i64.wrap ((q : Int) + 1) = ((q + 1 : Nat) : Int) := by rw [IntWalk.i64_in _ (by omega)]; rfl
      have HLT := Lib.hid hlt
      have nq := neq_rp pc pp
      have hjS : Hid (JS wr [] wr) := Lib.hid (J.start wr)
      have hmx : Tryd.prog.follows .mixedOrders = true := by kernel_rfl
      have hwr : w.heap.size + 1 < wr.heap.size := (hjr.out.bx 0 rfl).lt
      have hbb2 : bb < wr.heap.size := by omega
      have hbb3 : bb' < wr.heap.size := by omega
      clear hp hp' hlt a0 a1 a2 b0 b1 b2
      go_wp2
      refine wp_region_tail 10 _ JS.closed hjS.out hmx (by kernel_rfl) ?_
      simp only [List.take_succ_cons, List.take_zero, List.drop_succ_cons, List.drop_zero]
      apply Exists.intro
      refine ⟨fun w10 h10 => ?_, fun W1 hJ1 hB1 => ?_⟩
      · haveI := Ext.some h10
        have q0 := ext_old h10 (a := ⟨w.heap.size + 1, 3, none⟩) hwr a3
        have q1 := ext_old h10 (a := ⟨w.heap.size, 3, none⟩) (by simp only; omega) b3
        have q2 := ext_old h10 (a := ⟨bb, o + q * 2, none⟩) hbb2 c0
        have q3 := ext_old h10 (a := ⟨bb, o + q * 2 + 1, none⟩) hbb2 c1
        have q4 := ext_old h10 (a := ⟨bb', o' + q * 2, none⟩) hbb3 d0
        have q5 := ext_old h10 (a := ⟨bb', o' + q * 2 + 1, none⟩) hbb3 d1
        repeat go_big_quiet_step (fail)
        exact wpQuiet_nil rfl
      have hj1 := Lib.hid (hjr.out.next hB1)
      clear a3 b3 c0 c1 d0 d1 hJ1 hB1 hjS hjr
      change wpList _ _ _ _ _ _
      go_wp2
      go_roundw
      case rel => exact ⟨q + 1, by omega, rfl, hj1⟩
      case measure => have := HLT.out; simp [intOf]; omega
    · obtain rfl : q = n := by omega
      go_wp2
      go_ret
      exact ⟨rfl, hjr.out.below⟩

end Go.Proofs.YtgbgbodhpahceaaDoor.Jrn
