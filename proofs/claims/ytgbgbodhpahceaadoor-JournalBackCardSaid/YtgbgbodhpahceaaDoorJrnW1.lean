/- The walk of JournalBack. -/
import Derived.Test.YtgbgbodhpahceaaDoorJrnR
namespace Go.Proofs.YtgbgbodhpahceaaDoor.Walk
open Go.RowKit Go.Proofs.YtgbgbodhpahceaaDoor.Plain Go.Proofs.YtgbgbodhpahceaaDoor.Sees Go.Proofs.YtgbgbodhpahceaaDoor.Oct Go.Proofs.YtgbgbodhpahceaaDoor.Crc Go.Proofs.YtgbgbodhpahceaaDoor.Box Go.Proofs.YtgbgbodhpahceaaDoor.Held Go.Proofs.YtgbgbodhpahceaaDoor.JrnP Go.Proofs.YtgbgbodhpahceaaDoor.Open Go.Proofs.YtgbgbodhpahceaaDoor.LgrP Go.Proofs.YtgbgbodhpahceaaDoor.Jrn
set_option linter.unusedVariables false
set_option maxRecDepth 100000

set_option maxHeartbeats 12800000 in
theorem journalBack_walk (w : World) (ht : Tab w) (x : Lg) (s : Int) (hx : x.In w) (hw : (Lit.int .u64 s).wf = true) : Calls Tryd.prog 5 #[x.val, .int .u64 s] w fun e w' => e = .returned (.bool true) ∧ Below w.heap.size w w' := by
  have hs : 0 ≤ s ∧ s ≤ 18446744073709551615 := by have := bounds_u64 hw; omega
  have HI := Lib.hid (Lg.li hx)
  obtain ⟨b, m, k, A, cap, l⟩ := x
  unfold Lg.val
  simp only at HI ⊢
  obtain ⟨n, hn⟩ : ∃ n, l.length = n := ⟨_, rfl⟩
  rw [hn] at HI ⊢
  have HT := Lib.hid ht
  have hj := Lib.hid (J.one w #[.int .i64 b, .int .i64 m, .int .i64 k, .slice A n cap] 24)
  clear hw hx ht hn
  by_cases hf : n ≤ 80
  · have f1 : decide (n ≤ 80) = true := decide_eq_true hf
    by_cases hc : mayK b m k l = true
    · have HM := Lib.hid hc
      clear hc
      go_enter Tryd.func5, Tryd.ntmps5
      go_wp2_with (first
        | (go_at_call 9; go_must (refine (awake_any _ (HT.out.next hj.out.below)).mono ?_; rintro e w1 ⟨rfl, h1⟩; have hj1 := Lib.hid (hj.out.next h1); clear hj h1; obtain ⟨a0, a1, a2, a3⟩ := (hj1.out.bx 0 rfl).c4))
        | (go_at_call 10; go_must (refine (few_at (HI.out.next hj1.out.below) _ _ _).mono ?_; rintro e w2 ⟨rfl, h2⟩; rw [f1]; have hj2 := Lib.hid (hj1.out.next h2); clear hj1 h2 a0 a1 a2 a3; obtain ⟨a0, a1, a2, a3⟩ := (hj2.out.bx 0 rfl).c4))
        | (go_at_call 25; go_must (refine (check_at (HI.out.next hj2.out.below) (by omega) _ _ _).mono ?_; rintro e w3 ⟨rfl, h3⟩; rw [HM.out]; have hj3 := Lib.hid (hj2.out.next h3); clear hj2 h3 a0 a1 a2 a3; obtain ⟨a0, a1, a2, a3⟩ := (hj3.out.bx 0 rfl).c4))
        | (go_at_call 13; go_must (refine (put_at (HI.out.next hj3.out.below) (by omega) (HT.out.next hj3.out.below) _ _ _ _ hs).mono ?_; rintro e w4 ⟨⟨A5, c5, q5⟩, rfl, ⟨hq5, he5⟩, h4⟩; have hj4 := Lib.hid (hj3.out.next h4); have HQ5 := Lib.hid hq5; have HE5 := Lib.hid he5; clear hj3 h4 hq5 he5 a0 a1 a2 a3; simp only [RowV.val]))
        | (go_at_call 11; go_must (refine (get_back HQ5.out HE5.out (HT.out.next hj4.out.below) (may_k HM.out) HI.out.len (by omega) hs).mono ?_; rintro e w5 ⟨A6, c6, rfl, hl6, h5⟩; have hj5 := Lib.hid ((hj4.out.next h5).push #[.int .i64 b, .int .i64 m, .int .i64 0, .slice A6 n c6] 24); have HL6 := Lib.hid (hl6.next (below_box (o := .cells #[.int .i64 b, .int .i64 m, .int .i64 0, .slice A6 n c6] 24))); clear hj4 h5 hl6; obtain ⟨a0, a1, a2, a3⟩ := (hj5.out.bx 1 rfl).c4))
        | (go_at_call 15; (refine (of_at (HI.out.next hj5.out.below) (by omega) _ _ _).mono ?_; rintro e w6 ⟨A7, c7, rfl, hl7, h6⟩; have hj6 := Lib.hid ((hj5.out.next h6).push #[.int .i64 b, .int .i64 m, .int .i64 0, .slice A7 n c7] 34); have HL7 := Lib.hid (hl7.next (below_box (o := .cells #[.int .i64 b, .int .i64 m, .int .i64 0, .slice A7 n c7] 34))); have HL8 := Lib.hid ((HL6.out.next h6).next (below_box (o := .cells #[.int .i64 b, .int .i64 m, .int .i64 0, .slice A7 n c7] 34))); obtain ⟨m0, m1, m2, m3⟩ := (Bx.new w6 #[.int .i64 b, .int .i64 m, .int .i64 k, .slice A7 n c7] 34).c4; obtain ⟨m4, m5, m6, m7⟩ := (Bx.new w6 #[.int .i64 b, .int .i64 m, .int .i64 k, .slice A7 n c7] 34).f4; clear HL6 hl7 h6 hj5 a0 a1 a2 a3)))
      have KK : Hid (∀ W, Below (w6.alloc (.cells #[.int .i64 b, .int .i64 m, .int .i64 0, .slice A7 n c7] 34)).heap.size (w6.alloc (.cells #[.int .i64 b, .int .i64 m, .int .i64 0, .slice A7 n c7] 34)) W → (W.cell? ⟨w6.heap.size, 0, none⟩ = some (.int .i64 b) ∧ W.cell? ⟨w6.heap.size, 1, none⟩ = some (.int .i64 m) ∧ W.cell? ⟨w6.heap.size, 2, none⟩ = some (.int .i64 0) ∧ W.cell? ⟨w6.heap.size, 3, none⟩ = some (.slice A7 n c7)) ∧ (W.cell? ⟨w5.heap.size, 0, none⟩ = some (.int .i64 b) ∧ W.cell? ⟨w5.heap.size, 1, none⟩ = some (.int .i64 m) ∧ W.cell? ⟨w5.heap.size, 2, none⟩ = some (.int .i64 0) ∧ W.cell? ⟨w5.heap.size, 3, none⟩ = some (.slice A6 n c6)) ∧ Below w.heap.size w W) := Lib.hid fun W hW =>
        ⟨((hj6.out.next hW).bx 0 rfl).c4, ((hj6.out.next hW).bx 1 rfl).c4, (hj6.out.next hW).below⟩
      clear m0 m1 m2 m3 m4 m5 m6 m7 hj6
      generalize w6.alloc (.cells #[.int .i64 b, .int .i64 m, .int .i64 0, .slice A7 n c7] 34) = W0 at KK HL7 HL8 ⊢
      have hB0 : Below W0.heap.size W0 W0 := Below.refl _ _
      obtain ⟨⟨a0, a1, a2, a3⟩, ⟨b0, b1, b2, b3⟩, _⟩ := KK.out _ hB0
      go_region_with (first
        | (go_at_call 15; (refine (of_at (HL8.out.next hB0.drew) (by omega) _ _ _).mono ?_; rintro e w7 ⟨A8, c8, rfl, hl8, h7⟩; have h70 : Below W0.heap.size W0 w7 := hB0.drew.trans h7; obtain ⟨⟨a0, a1, a2, a3⟩, ⟨b0, b1, b2, b3⟩, _⟩ := KK.out _ h70))
        | (go_at_call 16; (refine (same_at hl8 (HL7.out.next h70) (by omega) _ _ _).mono ?_; rintro e w8 ⟨rfl, h8⟩; have h80 : Below W0.heap.size W0 w8 := h70.trans (h8.mono h70.size))))
      all_goals
        go_wp2
        go_ret
        exact ⟨rfl, (KK.out _ h80).2.2⟩
    · have HM : Hid (mayK b m k l = false) := Lib.hid (by simpa using hc)
      clear hc
      go_enter Tryd.func5, Tryd.ntmps5
      go_wp2_with (first
        | (go_at_call 9; go_must (refine (awake_any _ (HT.out.next hj.out.below)).mono ?_; rintro e w1 ⟨rfl, h1⟩; have hj1 := Lib.hid (hj.out.next h1); clear hj h1; obtain ⟨a0, a1, a2, a3⟩ := (hj1.out.bx 0 rfl).c4))
        | (go_at_call 10; go_must (refine (few_at (HI.out.next hj1.out.below) _ _ _).mono ?_; rintro e w2 ⟨rfl, h2⟩; rw [f1]; have hj2 := Lib.hid (hj1.out.next h2); clear hj1 h2 a0 a1 a2 a3; obtain ⟨a0, a1, a2, a3⟩ := (hj2.out.bx 0 rfl).c4))
        | (go_at_call 25; go_must (refine (check_at (HI.out.next hj2.out.below) (by omega) _ _ _).mono ?_; rintro e w3 ⟨rfl, h3⟩; rw [HM.out]; have hj3 := Lib.hid (hj2.out.next h3); clear hj2 h3 a0 a1 a2 a3)))
      go_ret
      exact ⟨rfl, hj3.out.below⟩
  · have f1 : decide (n ≤ 80) = false := decide_eq_false hf
    go_enter Tryd.func5, Tryd.ntmps5
    go_wp2_with (first
      | (go_at_call 9; go_must (refine (awake_any _ (HT.out.next hj.out.below)).mono ?_; rintro e w1 ⟨rfl, h1⟩; have hj1 := Lib.hid (hj.out.next h1); clear hj h1; obtain ⟨a0, a1, a2, a3⟩ := (hj1.out.bx 0 rfl).c4))
      | (go_at_call 10; go_must (refine (few_at (HI.out.next hj1.out.below) _ _ _).mono ?_; rintro e w2 ⟨rfl, h2⟩; rw [f1]; have hj2 := Lib.hid (hj1.out.next h2); clear hj1 h2 a0 a1 a2 a3)))
    go_ret
    exact ⟨rfl, hj2.out.below⟩

end Go.Proofs.YtgbgbodhpahceaaDoor.Walk
