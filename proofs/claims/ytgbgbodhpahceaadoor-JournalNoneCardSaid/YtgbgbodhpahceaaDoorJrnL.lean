/- The law's own: few, of. -/
import Derived.Test.YtgbgbodhpahceaaDoorJrnF
import Derived.Test.YtgbgbodhpahceaaDoorJrnH
import Derived.Test.YtgbgbodhpahceaaDoorSeesN
import Derived.Test.YtgbgbodhpahceaaDoorJrnE
namespace Go.Proofs.YtgbgbodhpahceaaDoor.Jrn
open Go.RowKit Go.Proofs.YtgbgbodhpahceaaDoor.Plain Go.Proofs.YtgbgbodhpahceaaDoor.Sees Go.Proofs.YtgbgbodhpahceaaDoor.Oct Go.Proofs.YtgbgbodhpahceaaDoor.Crc Go.Proofs.YtgbgbodhpahceaaDoor.Box Go.Proofs.YtgbgbodhpahceaaDoor.Held Go.Proofs.YtgbgbodhpahceaaDoor.JrnP Go.Proofs.YtgbgbodhpahceaaDoor.Open Go.Proofs.YtgbgbodhpahceaaDoor.LgrP
set_option linter.unusedVariables false
set_option maxRecDepth 100000

theorem few_any (x : Lg) (w : World) : Calls Tryd.prog 10 #[x.val] w fun e w' => e = .returned (.bool (decide (x.l.length ≤ 80))) ∧ Below w.heap.size w w' := by
  obtain ⟨b, m, k, A, cap, l⟩ := x
  unfold Lg.val
  simp only
  obtain ⟨n, hn⟩ : ∃ n, l.length = n := ⟨_, rfl⟩
  rw [hn]
  have hj := Lib.hid (J.one w #[.int .i64 b, .int .i64 m, .int .i64 k, .slice A n cap] 24)
  obtain ⟨a0, a1, a2, a3⟩ := (hj.out.bx 0 rfl).c4
  have e1 : decide ((n : Int) ≤ 80) = decide (n ≤ 80) := by congr 1; exact propext ⟨fun h => by omega, fun h => by omega⟩
  clear hn
  go_enter Tryd.func10, Tryd.ntmps10
  go_wp2
  go_ret
  exact ⟨by first | rfl | rw [e1], hj.out.below⟩

theorem info_rPermit : (Tryd.prog.info? 84).map (fun i => (i.zero, i.size, i.bytes)) = some (some (.agg #[.int .i64 0, .int .i64 0]), 2, 16) := by kernel_rfl
/-- a ledger is answered, in whatever memory, and memory made alone -/
def OfP (w : World) (b m k : Int) (l : List Pm) (e : Ending) (w' : World) : Prop := ∃ A c, e = .returned (Lg.val ⟨b, m, k, A, c, l⟩) ∧ Lg.In w' ⟨b, m, k, A, c, l⟩ ∧ Below w.heap.size w w'

set_option maxHeartbeats 6400000 in
theorem of_any (x : Lg) (w : World) (hx : x.In w) (hl : x.l.length ≤ 100) : Calls Tryd.prog 15 #[x.val] w (OfP w x.b x.m x.k x.l) := by
  obtain ⟨hcap, hmax, hsee⟩ := hx
  obtain ⟨b, m, k, A, cap, l⟩ := x
  unfold Lg.val
  simp only at hcap hmax hsee hl ⊢
  obtain ⟨i0, hi, hz0, hz1, hz2⟩ := info_parts info_rPermit
  obtain ⟨n, hn⟩ : ∃ n, l.length = n := ⟨_, rfl⟩
  rw [hn] at hl hcap ⊢
  have HN := Lib.hid hn
  have HS := Lib.hid hsee
  have hj0 := ((J.one w #[.int .i64 b, .int .i64 m, .int .i64 k, .slice A n cap] 24).push #[.int .i64 0, .int .i64 0, .int .i64 0, .slice none 0 0] 34).push #[.int .i64 0, .int .i64 0, .int .i64 0, .slice none 0 0] 34
  have hj := Lib.hid (((J.one w #[.int .i64 b, .int .i64 m, .int .i64 k, .slice A n cap] 24).push #[.int .i64 0, .int .i64 0, .int .i64 0, .slice none 0 0] 34).push #[.int .i64 b, .int .i64 m, .int .i64 k, .slice none 0 0] 34)
  simp only [World.size_alloc] at hj hj0
  obtain ⟨z0, z1, z2, z3⟩ := (hj0.bx 0 rfl).c4
  obtain ⟨f0, f1, f2, f3⟩ := (hj0.bx 0 rfl).f4
  obtain ⟨a0, a1, a2, a3⟩ := (hj0.bx 2 rfl).c4
  have hb1 := (J.one w #[.int .i64 b, .int .i64 m, .int .i64 k, .slice A n cap] 24).push #[.int .i64 0, .int .i64 0, .int .i64 0, .slice none 0 0] 34
  obtain ⟨b0, b1, b2, b3⟩ := (hb1.bx 1 rfl).c4
  clear hn hsee hcap hmax hj0 hb1
  go_enter Tryd.func15, Tryd.ntmps15
  go_wp2
  clear z0 z1 z2 z3 f0 f1 f2 f3 a0 a1 a2 a3 b0 b1 b2 b3
  obtain ⟨T, hT⟩ : ∃ T, w.heap.size + 1 + 1 = T := ⟨_, rfl⟩
  rw [hT] at hj ⊢
  have hTs := (hj.out.bx 0 rfl).lt
  go_loopw [4] (fun i wr => ∃ (q : Nat) (v : Value), q ≤ n ∧ i = .int .i64 q ∧ Hid (J w wr [(T, #[.int .i64 b, .int .i64 m, .int .i64 k, v]), (w.heap.size + 1, #[.int .i64 0, .int .i64 0, .int .i64 0, .slice none 0 0]), (w.heap.size, #[.int .i64 b, .int .i64 m, .int .i64 k, .slice A n cap])]) ∧ wr.ownsRow (T + 1) 84 2 v q (pms (l.take q))) (fun i _ => n - (intOf i).toNat)
  case atStart => exact ⟨0, _, Nat.zero_le _, rfl, hj, by simpa [pms] using World.ownsRow_nil _ _ _ _⟩
  case round =>
    obtain ⟨q, v, hq, rfl, hjr, hown⟩ := hrel
    clear hj hTs
    have hwr : T + 1 ≤ wr.heap.size := (hjr.out.bx 0 rfl).lt
    obtain ⟨a0, a1, a2, a3⟩ := (hjr.out.bx 2 rfl).c4
    obtain ⟨b0, b1, b2, b3⟩ := (hjr.out.bx 0 rfl).c4
    by_cases hlt : q < n
    · obtain ⟨p, bb, o, hp, rfl, hbb, c0, c1⟩ := pm_at (HS.out.below hjr.out.below (Nat.le_refl _)) (i := q) (by rw [HN.out]; exact hlt)
      have HT : Hid (pms (l.take (q + 1)) = pms (l.take q) ++ pms [p]) := Lib.hid (by rw [List.take_add_one, hp]; exact pms_append _ _)
      obtain ⟨pc, pp⟩ := p
      simp only at c0 c1
      have i1 : (q : Int) < (n : Int) := by omega
      have e3 : IntKind.i64.wrap ((q : Int) + 1) = ((q + 1 : Nat) : Int) := by rw [IntWalk.i64_in _ (by omega)]; rfl
      have HLT := Lib.hid hlt
      have hjS : Hid (JS wr [] wr) := Lib.hid (J.start wr)
      have hmx : Tryd.prog.follows .mixedOrders = true := by kernel_rfl
      have hbb2 : bb < wr.heap.size := by have := hjr.out.below.size; omega
      clear hp hlt a0 a1 a2 b0 b1 b2
      go_wp2
      refine wp_region_build 15 _ #[.int .i64 pc, .int .i64 pp] 84 1 _ 34 JS.closed hjS.out hmx (by kernel_rfl) (by kernel_rfl) rfl rfl rfl ?_
      simp only [List.take_succ_cons, List.take_zero, List.drop_succ_cons, List.drop_zero]
      apply Exists.intro
      have hTw : T < wr.heap.size := by omega
      have hww : w.heap.size < wr.heap.size := by omega
      refine ⟨fun w10 h10 => ?_, ?_, fun B W1 hJ1 hb1 hB hBx => ?_⟩
      · haveI := Ext.some h10
        have q0 := ext_old h10 (a := ⟨T, 3, none⟩) hTw b3
        have q1 := ext_old h10 (a := ⟨w.heap.size, 3, none⟩) hww a3
        have q2 := ext_old h10 (a := ⟨bb, o + q * 2, none⟩) hbb2 c0
        have q3 := ext_old h10 (a := ⟨bb, o + q * 2 + 1, none⟩) hbb2 c1
        repeat go_big_quiet_step (fail)
        exact wpQuiet_nil rfl
      · intro w'
        simp [execOp, Act.eval, go_sem]
      have hB1 : Below wr.heap.size wr W1 := J.below hJ1
      have hj1 := Lib.hid (hjr.out.next hB1)
      have hrow1 := own_below hown hB1 (fun k hk => (hown.lt k hk).2)
      have hW1 : T + 1 ≤ W1.heap.size := by have := hB1.size; omega
      have HBx := Lib.hid hBx
      clear a3 b3 c0 c1 hJ1 hb1 hjS hB1 hown hBx hjr
      change wpList _ _ _ _ _ _
      go_wp2_with (at_builtin; refine wpList_append_seesN _ rfl _ _ 32 rfl (T + 1) 84 i0 (.agg #[.int .i64 0, .int .i64 0]) 2 16 Tryd.underlying32 hi hz0 hz1 hz2 rfl (by decide) _ _ _ rfl hrow1 (B + 1) (some ⟨B, 0, none⟩) 1 1 (pms [⟨pc, pp⟩]) rfl (by simp [pms, Pm.cells]) (.inr ⟨B, 0, rfl, by omega, fun j u hu => by rw [Nat.zero_add]; exact HBx.out.cell (by simpa [pms, Pm.cells] using hu)⟩) (pms_one _) (by unfold maxLen; omega) (by omega) (by omega) ?_; intro v' w11 hown11 hg11; obtain ⟨g', c3, rfl⟩ := ownsRow_succ hown11; have hT11 := Lib.hid (j_grew hj1.out hg11.by_ (fun g e => (hrow1.lt g e).1) (by omega) (fun x hx => by simp at hx; rcases hx with rfl | rfl | rfl <;> simp only <;> omega)); obtain ⟨b0, b1, b2, b3⟩ := (hT11.out.bx 0 rfl).c4; obtain ⟨f0, f1, f2, f3⟩ := (hT11.out.bx 0 rfl).f4)
      go_roundw
      case rel =>
        refine ⟨q + 1, .slice (some ⟨g', 0, none⟩) (q + 1) c3, by omega, rfl, Lib.hid (hT11.out.put (by omega) (fun x hx => by simp at hx; rcases hx with rfl | rfl <;> simp only <;> omega) 3 (.slice (some ⟨g', 0, none⟩) (q + 1) c3)), ?_⟩
        rw [HT.out]
        exact ownsRow_setCell_other hown11 (a := ⟨T, 3, none⟩) (fun e => by have := (hown11.lt T e).1; omega) _
      case measure => have := HLT.out; simp [intOf]; omega
    · obtain rfl : q = n := by omega
      rw [List.take_of_length_le (by rw [HN.out]; exact Nat.le_refl _)] at hown
      obtain ⟨A5, c5, rfl⟩ : ∃ A c, v = .slice A q c := by
        rcases hown.2 with ⟨rfl, h0⟩ | ⟨g, cap, cur, rfl, _⟩
        · exact ⟨none, 0, by rw [h0]⟩
        · exact ⟨_, _, rfl⟩
      have hcm5 := own_cap hown
      have HS5 := Lib.hid (And.intro (TS.own hown) hown.lt)
      obtain ⟨b0, b1, b2, b3⟩ := (hjr.out.bx 0 rfl).c4
      obtain ⟨z0, z1, z2, z3⟩ := (hjr.out.bx 1 rfl).c4
      obtain ⟨f0, f1, f2, f3⟩ := (hjr.out.bx 1 rfl).f4
      clear hown
      go_wp2
      have hne : ∀ x ∈ ([] : List (Nat × Array Value)), x.1 ≠ w.heap.size + 1 := fun x hx => by cases hx
      have hje := ((((hjr.out.less (bs' := [(w.heap.size + 1, #[.int .i64 0, .int .i64 0, .int .i64 0, .slice none 0 0])]) (by simp)).put (by omega) hne 0 (.int .i64 b)).put (by omega) hne 1 (.int .i64 m)).put (by omega) hne 2 (.int .i64 k)).put (by omega) hne 3 (.slice A5 q c5)
      obtain ⟨k0, k1, k2, k3⟩ := (hje.bx 0 rfl).c4
      have hTe := ts_sets HS5.out.1 (X := w.heap.size + 1) (fun g hg => by have := (HS5.out.2 g hg).1; omega) (.int .i64 b) (.int .i64 m) (.int .i64 k) (.slice A5 q c5)
      refine bodyPost_ret (v := .agg #[.int .i64 b, .int .i64 m, .int .i64 k, .slice A5 q c5]) (by simp [results, Tryd.results15, go_sem, k0, k1, k2, k3]) rfl ⟨A5, c5, by simp only [Lg.val, HN.out], ⟨by simp only [HN.out]; exact hcm5.1, hcm5.2, hTe.sees⟩, hje.below⟩

end Go.Proofs.YtgbgbodhpahceaaDoor.Jrn
