/- The contract of Check. -/
import Derived.Test.YtjedkkkhficmoaaDoorLgrB
import Derived.Test.YtjedkkkhficmoaaDoorLgrF
import Derived.LoopN
namespace Go.Proofs.YtjedkkkhficmoaaDoor.Lgr
open Go.RowKit Go.Proofs.YtjedkkkhficmoaaDoor.LgrP Go.Proofs.YtjedkkkhficmoaaDoor.Open Go.Proofs.YtjedkkkhficmoaaDoor.Sees Go.Proofs.YtjedkkkhficmoaaDoor.Box Go.Proofs.YtjedkkkhficmoaaDoor.Held
set_option linter.unusedVariables false
set_option maxRecDepth 100000

/-- a slice cut at its end -/
theorem slice_hi (A : Option Addr) (n cap s : Nat) (h : s ≤ cap) :
    (∀ W, (Instr.sliceAt 30 (.slice A n cap) none (some (.int .i64 (s : Int))) none).run Tryd.prog W = .ok (.slice A s cap) W) ∧
    (∀ W, (Instr.slice 30 (.slice A n cap) none (some (.int .i64 (s : Int))) none).run Tryd.prog W = .ok (.slice A s cap) W) := by
  have hu : Tryd.prog.underlying 30 = some (.slice (Tryd.prog.elem 30)) := by kernel_rfl
  have h2 : ∀ W, (Instr.slice 30 (.slice A n cap) none (some (.int .i64 (s : Int))) none).run Tryd.prog W = .ok (.slice A s cap) W := fun W => by
    have hs : (sizeOf (Tryd.prog.elem 30)).run Tryd.prog W = .ok 2 W := by kernel_rfl
    rw [run_slice_h W 30 A n cap hu .i64 (s : Int) (by omega) (by omega), hs]
    simp only [Result.andThen, sliced]
    congr 2
    · split
      · rfl
      · cases A <;> simp [Addr.add]
  exact ⟨fun W => by rw [run_sliceAt_slice W _ _ _ _ _ hu]; exact h2 W, h2⟩

set_option maxRecDepth 100000 in
set_option maxHeartbeats 6400000 in
theorem check_any (x : Lg) (w : World) (hx : x.In w) (hl : x.l.length ≤ 65536) : Calls Tryd.prog 14 #[x.val] w (Says w (.bool (mayB x))) := by
  obtain ⟨hcap, hmax, hs⟩ := hx
  obtain ⟨b, m, k, A, cap, l⟩ := x
  simp only at hcap hmax hs hl
  have H1 : Hid (∀ W, Calls Tryd.prog 27 #[.int .i64 b] W (Says W (.bool (pwr b)))) := Lib.hid fun W => isPower_any b W
  have H2 : Hid (∀ W, Calls Tryd.prog 27 #[.int .i64 m] W (Says W (.bool (pwr m)))) := Lib.hid fun W => isPower_any m W
  have H3 : Hid (∀ W, Calls Tryd.prog 27 #[.int .i64 k] W (Says W (.bool (pwr k)))) := Lib.hid fun W => isPower_any k W
  have hj : Hid (J w _ _) := Lib.hid (J.one w #[.int .i64 b, .int .i64 m, .int .i64 k, .slice A l.length cap] 32)
  obtain ⟨a0, a1, a2, a3⟩ := (hj.out.bx 0 rfl).c4
  have hmB : mayB ⟨b, m, k, A, cap, l⟩ = (pwr b && pwr m && pwr k && apart [] l && decide (sm l ≤ b)) := rfl
  unfold Lg.val
  simp only
  rw [hmB]
  clear hmB
  generalize pwr b = pb at *
  generalize pwr m = pm at *
  generalize pwr k = pk at *
  cases pb
  · go_enter Tryd.func14, Tryd.ntmps14
    go_wp2_with (go_at_call 27; (with_reducible refine (H1.out _).mono ?_); clear H1; rintro e w1 ⟨rfl, h1⟩)
    go_ret
    exact ⟨rfl, (hj.out.next h1).below⟩
  cases pm
  · go_enter Tryd.func14, Tryd.ntmps14
    go_wp2_with (first
      | (go_at_call 27; (with_reducible refine (H1.out _).mono ?_); clear H1 a0 a1 a2 a3; rintro e w1 ⟨rfl, h1⟩; have hj1 := Lib.hid (hj.out.next h1); clear hj h1; obtain ⟨a0, a1, a2, a3⟩ := (hj1.out.bx 0 rfl).c4)
      | (go_at_call 27; (with_reducible refine (H2.out _).mono ?_); clear H2; rintro e w2 ⟨rfl, h2⟩))
    go_ret
    exact ⟨rfl, (hj1.out.next h2).below⟩
  cases pk
  · go_enter Tryd.func14, Tryd.ntmps14
    go_wp2_with (first
      | (go_at_call 27; (with_reducible refine (H1.out _).mono ?_); clear H1 a0 a1 a2 a3; rintro e w1 ⟨rfl, h1⟩; have hj1 := Lib.hid (hj.out.next h1); clear hj h1; obtain ⟨a0, a1, a2, a3⟩ := (hj1.out.bx 0 rfl).c4)
      | (go_at_call 27; (with_reducible refine (H2.out _).mono ?_); clear H2 a0 a1 a2 a3; rintro e w2 ⟨rfl, h2⟩; have hj2 := Lib.hid (hj1.out.next h2); clear hj1 h2; obtain ⟨a0, a1, a2, a3⟩ := (hj2.out.bx 0 rfl).c4)
      | (go_at_call 27; (with_reducible refine (H3.out _).mono ?_); clear H3; rintro e w3 ⟨rfl, h3⟩))
    go_ret
    exact ⟨rfl, (hj2.out.next h3).below⟩
  have hmx : cap ≤ 9223372036854775807 := by unfold maxLen at hmax; omega
  have HSm : Hid (∀ W, Below w.heap.size w W → Calls Tryd.prog 17 #[.agg #[.int .i64 b, .int .i64 m, .int .i64 k, .slice A l.length cap]] W (Says W (.int .i64 (sm l)))) := Lib.hid fun W hW =>
    sum_any ⟨b, m, k, A, cap, l⟩ W ⟨hcap, hmax, (hs.below hW (Nat.le_refl _)).more hW.size⟩ (by simp only; omega)
  have HPl : Hid (∀ s c W, s ≤ l.length → Below w.heap.size w W → Calls Tryd.prog 29 #[.slice A s cap, .int .i64 c] W (Says W (.int .i64 (idx (l.take s) c)))) := Lib.hid fun s c W hss hW =>
    place_any (l.take s) A s cap c W (by simp; omega) (by unfold maxLen; omega) ((by rw [pms_take]; exact sees_take (hs.below hW (Nat.le_refl _)) _ : Sees W w.heap.size A (pms (l.take s))).more hW.size)
  have HOk : Hid (∀ (p : Pm) W, Calls Tryd.prog 28 #[.agg #[.int .i64 p.c, .int .i64 p.p]] W (Says W (.bool (okP p)))) := Lib.hid fun p W => isPermit_any p W
  have HS := Lib.hid hs
  have HC := Lib.hid hcap
  clear hs hmax
  simp only [Bool.true_and]
  generalize hn : l.length = n at *
  have HN := Lib.hid hn
  clear hn
  go_enter Tryd.func14, Tryd.ntmps14
  go_wp2_with (first
    | (go_at_call 27; (with_reducible refine (H1.out _).mono ?_); clear H1 a0 a1 a2 a3; rintro e w1 ⟨rfl, h1⟩; have hj1 := Lib.hid (hj.out.next h1); clear hj h1; obtain ⟨a0, a1, a2, a3⟩ := (hj1.out.bx 0 rfl).c4)
    | (go_at_call 27; (with_reducible refine (H2.out _).mono ?_); clear H2 a0 a1 a2 a3; rintro e w2 ⟨rfl, h2⟩; have hj2 := Lib.hid (hj1.out.next h2); clear hj1 h2; obtain ⟨a0, a1, a2, a3⟩ := (hj2.out.bx 0 rfl).c4)
    | (go_at_call 27; (with_reducible refine (H3.out _).mono ?_); clear H3 a0 a1 a2 a3; rintro e w3 ⟨rfl, h3⟩; have hj3 := Lib.hid (hj2.out.next h3); clear hj2 h3; obtain ⟨a0, a1, a2, a3⟩ := (hj3.out.bx 0 rfl).c4))
  clear a0 a1 a2 a3
  go_loopw [3, 4, 24] (fun _ _ a wr => ∃ i : Nat, i ≤ n ∧ a = .int .i64 i ∧ Hid (apart [] l = apart (l.take i) (l.drop i)) ∧ Hid (J w wr [(w.heap.size, #[.int .i64 b, .int .i64 m, .int .i64 k, .slice A n cap])])) (fun _ _ a _ => n - (intOf a).toNat)
  case atStart => exact ⟨0, Nat.zero_le _, rfl, Lib.hid rfl, hj3⟩
  case round =>
    clear hj3
    obtain ⟨i, hi, rfl, hap, hj⟩ := hrel
    by_cases hlt : i < n
    · obtain ⟨q, hq⟩ : ∃ q, l[i]? = some q := ⟨_, List.getElem?_eq_getElem (by rw [HN.out]; exact hlt)⟩
      obtain ⟨bb, o, rfl, hbb, c0, c1⟩ := pm_cells (HS.out.below hj.out.below (Nat.le_refl _)) i q hq
      have hd : Hid (l.drop i = q :: l.drop (i + 1)) := Lib.hid (by
        obtain ⟨h4, h5⟩ := List.getElem?_eq_some_iff.1 hq
        rw [List.drop_eq_getElem_cons h4, h5])
      have ht : Hid (l.take (i + 1) = l.take i ++ [q]) := Lib.hid (by rw [List.take_add_one, hq]; rfl)
      clear hq
      have HOq := Lib.hid (HOk.out q)
      have HPq := Lib.hid (fun W hW => HPl.out i q.c W (by omega) hW)
      have hap2 : Hid (apart [] l = (okP q && decide (idx (l.take i) q.c < 0) && apart (l.take (i + 1)) (l.drop (i + 1)))) := Lib.hid (by rw [hap.out, hd.out, ht.out]; rfl)
      obtain ⟨qc, qp⟩ := q
      simp only at c0 c1 HOq HPq hap2
      obtain ⟨s1, s2⟩ := slice_hi (some ⟨bb, o, none⟩) n cap i (by have := HC.out; omega)
      have i1 : (i : Int) < (n : Int) := by omega
      have e3 : IntKind.i64.wrap ((i : Int) + 1) = ((i + 1 : Nat) : Int) := by rw [IntWalk.i64_in _ (by omega)]; rfl
      have hj1 : Hid (J w _ _) := Lib.hid (hj.out.push #[.int .i64 qc, .int .i64 qp] 54)
      have HLT := Lib.hid hlt
      clear hj hd ht HOk HPl hap
      generalize okP ⟨qc, qp⟩ = ok at *
      generalize idx (l.take i) qc = ix at *
      have ways : (ok = false) ∨ (ok = true ∧ 0 ≤ ix) ∨ (ok = true ∧ ¬ 0 ≤ ix) := by
        cases ok
        · exact .inl rfl
        · by_cases h : 0 ≤ ix
          · exact .inr (.inl ⟨rfl, h⟩)
          · exact .inr (.inr ⟨rfl, h⟩)
      rcases ways with rfl | ⟨rfl, h2⟩ | ⟨rfl, h2⟩
      all_goals
        go_wp2
        have hW := Lib.hid (And.intro (hj1.out.bx 0 rfl) (hj1.out.bx 1 rfl))
        generalize hWW : wr.alloc (.cells #[.int .i64 qc, .int .i64 qp] 54) = W0 at hj1 hW ⊢
        clear hWW c0 c1
        obtain ⟨p0, p1⟩ := hW.out.1.c2
        obtain ⟨a0, a1, a2, a3⟩ := hW.out.2.c4
        have hl0 := hW.out.1.lt
        have hl1 := hW.out.2.lt
        have hjS : Hid (JS W0 [] W0) := Lib.hid (J.start W0)
        refine wp_region_all _ JS.closed hjS.out (by kernel_rfl) (by kernel_rfl) ?_
        apply Exists.intro
        refine ⟨fun w10 h10 => ?_, fun W1 hJ1 hb1 => ?_⟩
        · haveI := Ext.some h10
          have q0 := ext_old h10 (a := ⟨wr.heap.size, 0, none⟩) hl0 p0
          have q1 := ext_old h10 (a := ⟨wr.heap.size, 1, none⟩) hl0 p1
          have q3 := ext_old h10 (a := ⟨w.heap.size, 3, none⟩) hl1 a3
          have cO := Lib.hid (Ext.calls h10 JS.closed (fun W hW => HOq.out W))
          have cP := Lib.hid (Ext.calls h10 JS.closed (fun W hW => HPq.out W (hj1.out.below.trans ((J.below hW).mono hj1.out.below.size))))
          repeat go_big_quiet_step (first | (go_at_call 28; with_reducible exact cO.out _) | (go_at_call 29; with_reducible exact cP.out _))
          exact wpQuiet_nil rfl
        have hj10 := Lib.hid (hj1.out.next (J.below hJ1))
      · go_wp2
        go_ret
        exact ⟨ret_bool (by rw [hap2.out]; rfl), hj10.out.below⟩
      · go_wp2
        go_ret
        exact ⟨ret_bool (by rw [hap2.out, show decide (ix < 0) = false from decide_eq_false (by omega)]; rfl), hj10.out.below⟩
      · go_wp2
        go_roundw
        case rel => exact ⟨i + 1, by have := HLT.out; omega, rfl, Lib.hid (by rw [hap2.out, show decide (ix < 0) = true from decide_eq_true (by omega)]; rfl), Lib.hid (hj10.out.less (by simp))⟩
        case measure => have := HLT.out; simp [intOf]; omega
    · obtain rfl : i = n := by omega
      have hap2 : Hid (apart [] l = true) := Lib.hid (by rw [hap.out, List.drop_eq_nil_of_le (by rw [HN.out]; exact Nat.le_refl _)]; simp [apart])
      clear hap HPl HOk
      generalize sm l = S at *
      obtain ⟨a0, a1, a2, a3⟩ := (hj.out.bx 0 rfl).c4
      have hl1 := (hj.out.bx 0 rfl).lt
      have hjS : Hid (JS wr [] wr) := Lib.hid (J.start wr)
      go_wp2
      refine wp_region_all _ JS.closed hjS.out (by kernel_rfl) (by kernel_rfl) ?_
      apply Exists.intro
      refine ⟨fun w10 h10 => ?_, fun W1 hJ1 hb1 => ?_⟩
      · haveI := Ext.some h10
        have q0 := ext_old h10 (a := ⟨w.heap.size, 0, none⟩) hl1 a0
        have q1 := ext_old h10 (a := ⟨w.heap.size, 1, none⟩) hl1 a1
        have q2 := ext_old h10 (a := ⟨w.heap.size, 2, none⟩) hl1 a2
        have q3 := ext_old h10 (a := ⟨w.heap.size, 3, none⟩) hl1 a3
        have cS := Lib.hid (Ext.calls h10 JS.closed (fun W hW => HSm.out W (hj.out.below.trans ((J.below hW).mono hj.out.below.size))))
        repeat go_big_quiet_step (first | (go_at_call 17; with_reducible exact cS.out _))
        exact wpQuiet_nil rfl
      have hj10 := Lib.hid (hj.out.next (J.below hJ1))
      go_wp2
      go_ret
      exact ⟨ret_bool (by rw [hap2.out, Bool.true_and]), hj10.out.below⟩

end Go.Proofs.YtjedkkkhficmoaaDoor.Lgr
