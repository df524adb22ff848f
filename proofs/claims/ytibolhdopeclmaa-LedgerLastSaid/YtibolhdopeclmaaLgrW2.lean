/- The walk of LedgerLast. -/
import Derived.Test.YtibolhdopeclmaaLgrH
import Derived.Test.YtibolhdopeclmaaLgrI
import Derived.OpenShut
import Derived.LoopN
import Derived.Laws.StructEq
namespace Go.Proofs.Ytibolhdopeclmaa.Walk
open Go.RowKit Go.ChangeShapes Go.Proofs.Ytibolhdopeclmaa.LgrP Go.Proofs.Ytibolhdopeclmaa.Lgr Go.Proofs.Ytibolhdopeclmaa.Box Go.Proofs.Ytibolhdopeclmaa.Held Go.Proofs.Ytibolhdopeclmaa.Sees Go.Proofs.Ytibolhdopeclmaa.Open
set_option linter.unusedVariables false

theorem may_in {x : Lg} (h : mayB x = true) : (0 ≤ x.b ∧ x.b ≤ 1048576) ∧ (0 ≤ x.m ∧ x.m ≤ 1048576) ∧ (0 ≤ x.k ∧ x.k ≤ 1048576) ∧ ∀ p ∈ x.l, 0 ≤ p.p ∧ p.p ≤ 1048576 := by
  unfold mayB at h
  simp only [Bool.and_eq_true] at h
  obtain ⟨⟨⟨⟨h1, h2⟩, h3⟩, h4⟩, _⟩ := h
  refine ⟨pwr_iff.1 h1, pwr_iff.1 h2, pwr_iff.1 h3, ?_⟩
  have key : ∀ (l pre : List Pm), apart pre l = true → ∀ p ∈ l, 0 ≤ p.p ∧ p.p ≤ 1048576 := by
    intro l
    induction l with
    | nil => intro _ _ p hp; cases hp
    | cons q l ih =>
      intro pre ha p hp
      simp only [apart, Bool.and_eq_true] at ha
      rcases List.mem_cons.1 hp with rfl | hp
      · exact (okP_iff.1 ha.1.1).2
      · exact ih _ ha.2 p hp
  exact key x.l [] h4
theorem gone_at (l : List Pm) (s i j : Nat) (p : Pm) (hp : l[i]? = some p) (hs : s ≤ i) (hj : j + i + 1 = l.length) : (nums .i64 ((l.drop s).reverse.map Pm.c))[j]? = some (.int .i64 p.c) := by
  have hl : (l.drop s).length = l.length - s := by simp
  unfold nums
  rw [List.getElem?_map, List.getElem?_map, List.getElem?_reverse (by omega), hl, List.getElem?_drop, show s + (l.length - s - 1 - j) = i by omega, hp]
  rfl

set_option maxRecDepth 100000 in
set_option maxHeartbeats 6400000 in
theorem ledgerLast_walk (w : World) (x : Lg) (bud : Int) (hx : x.In w) (w0 : (Lit.int .i64 bud).wf = true) :
    Calls Try.prog 4 #[x.val, .int .i64 bud] w fun e w' => e = .returned (.bool true) ∧ Below w.heap.size w w' := by
  have hbd := bounds_i64 w0
  clear w0
  have hxc := hx.cap_
  have hxm := hx.max_
  have HX := Lib.hid hx
  have HA : Hid (∀ W, Calls Try.prog 5 #[] W (Says W (.bool true))) := Lib.hid fun W => awake_any W
  have hj : Hid (J w _ _) := Lib.hid (J.one w #[.int .i64 x.b, .int .i64 x.m, .int .i64 x.k, .slice x.A x.l.length x.cap] 26)
  by_cases hbig : 64 < x.l.length
  · have g1 : (64 : Int) < (x.l.length : Int) := by omega
    unfold Lg.val
    obtain ⟨b, m, k, A, cap, l⟩ := x
    simp only at *
    generalize l.length = n at *
    clear hbig
    go_enter Try.func4, Try.ntmps4
    go_wp2_with (go_at_call 5; (with_reducible refine (HA.out _).mono ?_); clear HA; rintro e w1 ⟨rfl, h1⟩; have hj1 := Lib.hid (hj.out.next h1); clear h1; obtain ⟨a0, a1, a2, a3⟩ := (hj1.out.bx 0 rfl).c4)
    go_ret
    exact ⟨rfl, hj1.out.below⟩
  · have HC : Hid (∀ W, Below w.heap.size w W → Calls Try.prog 7 #[.agg #[.int .i64 x.b, .int .i64 x.m, .int .i64 x.k, .slice x.A x.l.length x.cap]] W (Says W (.bool (mayB x)))) := Lib.hid fun W hW => check_any x W ⟨HX.out.cap_, HX.out.max_, (HX.out.see.below hW (Nat.le_refl _)).more hW.size⟩ (by omega)
    have g1 : ¬ (64 : Int) < (x.l.length : Int) := by omega
    cases hmay : mayB x
    · rw [hmay] at HC
      clear hmay
      unfold Lg.val
      obtain ⟨b, m, k, A, cap, l⟩ := x
      simp only at *
      generalize l.length = n at *
      clear hbig hx
      go_enter Try.func4, Try.ntmps4
      go_wp2_with (first
        | (go_at_call 5; (with_reducible refine (HA.out _).mono ?_); clear HA; rintro e w1 ⟨rfl, h1⟩; have hj1 := Lib.hid (hj.out.next h1); clear h1; obtain ⟨a0, a1, a2, a3⟩ := (hj1.out.bx 0 rfl).c4)
        | (go_at_call 7; (with_reducible refine (HC.out _ hj1.out.below).mono ?_); clear HC; rintro e w2 ⟨rfl, h2⟩))
      go_ret
      exact ⟨rfl, (hj1.out.next h2).below⟩
    · rw [hmay] at HC
      obtain ⟨mb, mm, mk, mp⟩ := may_in hmay
      clear hmay
      unfold Lg.val
      obtain ⟨b, m, k, A, cap, l⟩ := x
      simp only at *
      have hs := HX.out.see
      simp only at hs
      obtain ⟨q, hq⟩ : ∃ q, cl bud = q := ⟨_, rfl⟩
      obtain ⟨s, hf⟩ : ∃ s, fit l q = s := ⟨_, rfl⟩
      have hqb : 0 ≤ q ∧ q ≤ 1048576 := by rw [← hq]; exact cl_in bud
      have hsle : s ≤ l.length := by rw [← hf]; exact fit_le l q
      have htot : SatP.tot (pk (l.take s)) ≤ q := by rw [← hf]; exact fit_fits l q hqb.1
      have hmp : ∀ p ∈ l.take s, 0 ≤ p.p ∧ p.p ≤ 1048576 := fun p hp => mp p (List.mem_of_mem_take hp)
      have hlt : (l.take s).length = s := by simp; omega
      have HMOST := Lib.hid (fun j (h1 : s < j) (h2 : j ≤ l.length) => fit_most (l := l) (b := q) (s := j) (by rw [hf]; exact h1) h2)
      obtain ⟨r, hr⟩ : ∃ r, l.length - s = r := ⟨_, rfl⟩
      have F1 : Hid (∀ W, Below w.heap.size w W → Calls Try.prog 8 #[.agg #[.int .i64 b, .int .i64 m, .int .i64 k, .slice A l.length cap], .int .i64 bud] W fun e w' => ∃ (A' : Option Addr) (c' : Nat) (A2 : Option Addr) (c2 : Nat), e = .returned (.tuple #[.agg #[.int .i64 q, .int .i64 m, .int .i64 k, .slice A' s c'], .slice A2 r c2]) ∧
          s ≤ c' ∧ c' ≤ maxLen ∧ Sees w' w'.heap.size A' (pms (l.take s)) ∧ Sees w' w'.heap.size A2 (nums .i64 ((l.drop s).reverse.map Pm.c)) ∧ Below W.heap.size W w') := Lib.hid fun W hW =>
        fit_as W b m k A l.length cap l bud q s r rfl (by omega) hxc hxm ((hs.below hW (Nat.le_refl _)).more hW.size) mp hq hf hr
      have F2 : Hid (∀ A c W, s ≤ c → c ≤ maxLen → Sees W W.heap.size A (pms (l.take s)) → Calls Try.prog 8 #[.agg #[.int .i64 q, .int .i64 m, .int .i64 k, .slice A s c], .int .i64 bud] W fun e w' => ∃ (A' : Option Addr) (c' : Nat) (A2 : Option Addr) (c2 : Nat), e = .returned (.tuple #[.agg #[.int .i64 q, .int .i64 m, .int .i64 k, .slice A' s c'], .slice A2 0 c2]) ∧ Below W.heap.size W w') := Lib.hid fun A c W h1 h2 h3 =>
        (fit_as W q m k A s c (l.take s) bud q s 0 hlt (by omega) h1 h2 h3 hmp hq (by rw [fit_all htot, hlt]) (by omega)).mono fun e w' ⟨A', c', A2, c2, h4, _, _, _, _, h5⟩ => ⟨A', c', A2, c2, h4, h5⟩
      have hS1 : sm (l.take s) ≤ q := by rw [sm_tot (by omega) hmp]; exact htot
      have S1 : Hid (∀ A c W, s ≤ c → c ≤ maxLen → Sees W W.heap.size A (pms (l.take s)) → Calls Try.prog 9 #[.agg #[.int .i64 q, .int .i64 m, .int .i64 k, .slice A s c]] W (Says W (.int .i64 (sm (l.take s))))) := Lib.hid fun A c W h1 h2 h3 =>
        sum_as W q m k A s c (l.take s) _ hlt (by omega) h1 h2 h3 rfl
      generalize sm (l.take s) = S at *
      have x1 : ∀ W, (Builtin.max_ #[3, 3] 3 #[.int .i64 bud, .int .i64 0]).run Try.prog W = .ok (.int .i64 (max bud 0)) W := fun W => by
        rw [run_max_int2]; congr 2; split <;> omega
      have x2 : ∀ W, (Builtin.min_ #[3, 3] 3 #[.int .i64 (max bud 0), .int .i64 1048576]).run Try.prog W = .ok (.int .i64 q) W := fun W => by
        rw [run_min_int2, ← hq]; unfold cl; congr 2; split <;> omega
      generalize max bud 0 = bm at *
      obtain ⟨n, hn⟩ : ∃ n, l.length = n := ⟨_, rfl⟩
      rw [hn] at hr hsle hxc g1 hbig
      have e1 : IntKind.i64.wrap ((s : Int) + (r : Int)) = (n : Int) := by rw [IntWalk.i64_in _ (by omega)]; omega
      have z1 : (q != q) = false := by simp
      rw [hn] at F1 HC hj
      have HN := Lib.hid hn
      have HMP := Lib.hid mp
      have HR := Lib.hid (And.intro hsle hr)
      have HB := Lib.hid hbig
      have HQ := Lib.hid hqb
      have HXC := Lib.hid hxc
      clear hn hmp mp mb mm mk hlt htot hq hf hx hs hr hsle hbig hqb hxc hxm hbd
      rw [HN.out]
      go_enter Try.func4, Try.ntmps4
      go_wp2_with (first
        | (go_at_call 5; (with_reducible refine (HA.out _).mono ?_); clear HA; rintro e w1 ⟨rfl, h1⟩; have hj1 := Lib.hid (hj.out.next h1); clear h1 hj; obtain ⟨a0, a1, a2, a3⟩ := (hj1.out.bx 0 rfl).c4)
        | (go_at_call 7; (with_reducible refine (HC.out _ hj1.out.below).mono ?_); clear HC a0 a1 a2 a3; rintro e w2 ⟨rfl, h2⟩; have hj2 := Lib.hid (hj1.out.next h2); clear h2 hj1; obtain ⟨a0, a1, a2, a3⟩ := (hj2.out.bx 0 rfl).c4)
        | (go_at_call 8; (with_reducible refine (F1.out _ hj2.out.below).mono ?_); clear F1 a0 a1 a2 a3; rintro e w3 ⟨A1, c1, A2, c2, rfl, hc1, hm1, hs1, hs2, h3⟩; have hj3 := Lib.hid ((hj2.out.next h3).push #[.int .i64 q, .int .i64 m, .int .i64 k, .slice A1 s c1] 26); have hS3 := Lib.hid (And.intro (sees_next hs1 (below_box (o := .cells #[.int .i64 q, .int .i64 m, .int .i64 k, .slice A1 s c1] 26))) (sees_next hs2 (below_box (o := .cells #[.int .i64 q, .int .i64 m, .int .i64 k, .slice A1 s c1] 26)))); clear h3 hj2 hs1 hs2; obtain ⟨a0, a1, a2, a3⟩ := (hj3.out.bx 0 rfl).c4)
        | (go_at_call 8; (with_reducible refine (F2.out _ _ _ hc1 hm1 hS3.out.1).mono ?_); clear F2 a0 a1 a2 a3; rintro e w4 ⟨A3, c3, A4, c4, rfl, h4⟩; have hj4 := Lib.hid ((hj3.out.next h4).push #[.int .i64 q, .int .i64 m, .int .i64 k, .slice A3 s c3] 26); have hS4 := Lib.hid (And.intro (sees_next hS3.out.1 (below_more h4 (below_box (o := .cells #[.int .i64 q, .int .i64 m, .int .i64 k, .slice A3 s c3] 26)) (Nat.le_refl _))) (sees_next hS3.out.2 (below_more h4 (below_box (o := .cells #[.int .i64 q, .int .i64 m, .int .i64 k, .slice A3 s c3] 26)) (Nat.le_refl _)))); clear h4 hj3 hS3; obtain ⟨a0, a1, a2, a3⟩ := (hj4.out.bx 2 rfl).c4; obtain ⟨b0, b1, b2, b3⟩ := (hj4.out.bx 1 rfl).c4; obtain ⟨d0, d1, d2, d3⟩ := (hj4.out.bx 0 rfl).c4)
        | (go_at_call 9; (with_reducible refine (S1.out _ _ _ hc1 hm1 hS4.out.1).mono ?_); clear S1 a0 a1 a2 a3 b0 b1 b2 b3 d0 d1 d2 d3; rintro e w5 ⟨rfl, h5⟩; have hj5 := Lib.hid (hj4.out.next h5); have hS5 := Lib.hid (And.intro (sees_next hS4.out.1 h5) (sees_next hS4.out.2 h5)); clear h5 hj4 hS4; obtain ⟨a0, a1, a2, a3⟩ := (hj5.out.bx 2 rfl).c4; obtain ⟨b0, b1, b2, b3⟩ := (hj5.out.bx 1 rfl).c4; obtain ⟨d0, d1, d2, d3⟩ := (hj5.out.bx 0 rfl).c4))
      clear a0 a1 a2 a3 b0 b1 b2 b3 d0 d1 d2 d3 x1 x2 z1
      generalize w3.heap.size = Y at *
      generalize w4.heap.size = Z at *
      go_loopw [11, 12] (fun v a wr => ∃ (i : Nat) (T : Int), a = .int .i64 i ∧ i ≤ n ∧ v = .int .i64 T ∧ Hid (T = SatP.tot (pk (l.take i))) ∧ Hid (Below w5.heap.size w5 wr)) (fun _ a _ => n - (intOf a).toNat)
      case atStart => exact ⟨0, 0, rfl, Nat.zero_le _, rfl, Lib.hid rfl, Lib.hid (Below.refl _ _)⟩
      case round =>
        obtain ⟨i, T, rfl, hi, rfl, hT, hB⟩ := hrel
        have hjr := Lib.hid (hj5.out.next hB.out)
        obtain ⟨a0, a1, a2, a3⟩ := (hjr.out.bx 2 rfl).c4
        clear a0 a1 a2
        by_cases hlt : i < n
        · obtain ⟨p, hp⟩ : ∃ p, l[i]? = some p := ⟨_, List.getElem?_eq_getElem (by rw [HN.out]; exact hlt)⟩
          have hs := HX.out.see
          simp only at hs
          obtain ⟨bb, o, hA, hbb, c0, c1'⟩ := pm_cells (hs.below hjr.out.below (Nat.le_refl _)) i p hp
          have hpp := HMP.out p (List.mem_of_getElem? hp)
          have htt := tot_ge (l := l.take i) fun p hp => HMP.out p (List.mem_of_mem_take hp)
          have htl : ((l.take i).length : Int) ≤ 64 := by have := HB.out; simp; omega
          have HTS := Lib.hid (tot_take_succ hp)
          have hS5 := Lib.hid (And.intro (sees_next hS5.out.1 hB.out) (sees_next hS5.out.2 hB.out))
          obtain ⟨b0, b1, b2, b3⟩ := (hjr.out.bx 1 rfl).c4
          have L0 := Lib.hid (hjr.out.bx 2 rfl).lt
          have L1 := Lib.hid (hjr.out.bx 1 rfl).lt
          have L2 : Hid (bb < wr.heap.size) := Lib.hid (Nat.lt_of_lt_of_le hbb hjr.out.below.size)
          have HLT := Lib.hid hlt
          obtain ⟨T2, hT2⟩ : ∃ T2, T + p.p = T2 := ⟨_, rfl⟩
          have e2 : IntKind.i64.wrap (T + p.p) = T2 := by rw [hT2]; have := hT.out; exact IntWalk.i64_in _ (by omega)
          have HT2 : Hid (T2 = SatP.tot (pk (l.take (i + 1)))) := Lib.hid (by rw [HTS.out, ← hT.out, hT2])
          have e3 : IntKind.i64.wrap ((i : Int) + 1) = ((i + 1 : Nat) : Int) := by have := HB.out; rw [IntWalk.i64_in _ (by omega)]; rfl
          have i1 : (i : Int) < (n : Int) := by omega
          have hjS : Hid (JS wr [] wr) := Lib.hid (J.start wr)
          have HP := Lib.hid hp
          clear b0 b1 b2 hp hpp htt htl hs hbb hT2
          obtain ⟨pc, pp⟩ := p
          simp only at c0 c1' e2
          subst hA
          by_cases his : i < s
          · have hp2 : (l.take s)[i]? = some ⟨pc, pp⟩ := by rw [List.getElem?_take_of_lt his]; exact HP.out
            obtain ⟨ba, oa, hA1, hba, k0, k1⟩ := pm_cells hS5.out.1 i _ hp2
            subst hA1
            simp only at k0 k1
            have LA := Lib.hid hba
            have i2 : (i : Int) < (s : Int) := by omega
            have i3 : decide ((s : Int) ≤ (i : Int)) = false := decide_eq_false (by omega)
            have i4 : decide ((i : Int) = (s : Int)) = false := decide_eq_false (by omega)
            have i5 : decide ((i : Int) < (s : Int)) = true := decide_eq_true (by omega)
            have i6 : decide (s ≤ i) = false := decide_eq_false (by omega)
            have i7 : decide (i = s) = false := decide_eq_false (by omega)
            have i8 : decide (i < s) = true := decide_eq_true (by omega)
            clear hp2 hba his hlt
            go_wp2
            refine wp_region_all _ JS.closed hjS.out (by kernel_rfl) (by kernel_rfl) ?_
            apply Exists.intro
            refine ⟨fun w10 h10 => ?_, fun W1 hJ1 hb1 => ?_⟩
            · haveI := Ext.some h10
              have q0 := ext_old h10 (a := ⟨w.heap.size, 3, none⟩) L0.out a3
              have q1 := ext_old h10 (a := ⟨Y, 3, none⟩) L1.out b3
              have q2 := ext_old h10 (a := ⟨bb, o + i * 2, none⟩) L2.out c0
              have q3 := ext_old h10 (a := ⟨bb, o + i * 2 + 1, none⟩) L2.out c1'
              have q4 := ext_old h10 (a := ⟨ba, oa + i * 2, none⟩) LA.out k0
              have q5 := ext_old h10 (a := ⟨ba, oa + i * 2 + 1, none⟩) LA.out k1
              repeat go_big_quiet_step (fail)
              exact wpQuiet_nil rfl
            have hb10 := Lib.hid (hB.out.trans ((J.below hJ1).mono hB.out.size))
            have a3 := ((J.below hJ1).cell (p := ⟨w.heap.size, 3, none⟩) L0.out).trans a3
            have b3 := ((J.below hJ1).cell (p := ⟨Y, 3, none⟩) L1.out).trans b3
            clear hJ1 hb1 hjS c0 c1'
            go_wp2
            go_roundw
            case rel => exact ⟨i + 1, T2, rfl, by have := HLT.out; omega, rfl, HT2, hb10⟩
            case measure => have := HLT.out; simp [intOf]; omega
          · obtain ⟨j, hj⟩ : ∃ j : Nat, j + i + 1 = n := ⟨n - 1 - i, by omega⟩
            have hg := hS5.out.2.at_ (gone_at l s i j _ HP.out (by omega) (by rw [HN.out]; exact hj))
            obtain ⟨bg, og, hA2, hbg, kg⟩ := hg
            subst hA2
            simp only at kg
            have LG := Lib.hid hbg
            obtain ⟨y1, hy1⟩ : ∃ y1, (n : Int) - 1 = y1 := ⟨_, rfl⟩
            have e4 : IntKind.i64.wrap ((n : Int) - 1) = y1 := by have := HB.out; rw [hy1]; exact IntWalk.i64_in _ (by omega)
            have e5 : IntKind.i64.wrap (y1 - (i : Int)) = (j : Int) := by have := HB.out; rw [IntWalk.i64_in _ (by omega)]; omega
            have i3 : decide ((s : Int) ≤ (i : Int)) = true := decide_eq_true (by omega)
            have i5 : decide ((i : Int) < (s : Int)) = false := decide_eq_false (by omega)
            have i6 : decide (s ≤ i) = true := decide_eq_true (by omega)
            have i8 : decide (i < s) = false := decide_eq_false (by omega)
            have j1 : (j : Int) < (r : Int) := by have := HR.out; omega
            have HJ := Lib.hid hj
            clear hbg hlt hj hy1
            by_cases his2 : i = s
            · have i9 : decide (T2 ≤ q) = false := decide_eq_false (by
                have h2 := HMOST.out (i + 1) (by omega) (by have := HN.out; have := HLT.out; omega)
                have h3 := HT2.out
                omega)
              subst his2
              clear his
              go_wp2
              refine wp_region_all _ JS.closed hjS.out (by kernel_rfl) (by kernel_rfl) ?_
              apply Exists.intro
              refine ⟨fun w10 h10 => ?_, fun W1 hJ1 hb1 => ?_⟩
              · haveI := Ext.some h10
                have q0 := ext_old h10 (a := ⟨w.heap.size, 3, none⟩) L0.out a3
                have q1 := ext_old h10 (a := ⟨Y, 3, none⟩) L1.out b3
                have q2 := ext_old h10 (a := ⟨bb, o + i * 2, none⟩) L2.out c0
                have q3 := ext_old h10 (a := ⟨bb, o + i * 2 + 1, none⟩) L2.out c1'
                have q4 := ext_old h10 (a := ⟨bg, og + j, none⟩) LG.out kg
                repeat go_big_quiet_step (fail)
                exact wpQuiet_nil rfl
              have hb10 := Lib.hid (hB.out.trans ((J.below hJ1).mono hB.out.size))
              have a3 := ((J.below hJ1).cell (p := ⟨w.heap.size, 3, none⟩) L0.out).trans a3
              have b3 := ((J.below hJ1).cell (p := ⟨Y, 3, none⟩) L1.out).trans b3
              clear hJ1 hb1 hjS c0 c1'
              go_wp2
              go_roundw
              case rel => exact ⟨i + 1, T2, rfl, by have := HLT.out; omega, rfl, HT2, hb10⟩
              case measure => have := HLT.out; simp [intOf]; omega
            · have i2 : (s : Int) < (i : Int) := by omega
              have i4 : decide ((i : Int) = (s : Int)) = false := decide_eq_false (by omega)
              have i7 : decide (i = s) = false := decide_eq_false his2
              have i9 : ¬ (i : Int) = (s : Int) := by omega
              clear his
              go_wp2
              refine wp_region_all _ JS.closed hjS.out (by kernel_rfl) (by kernel_rfl) ?_
              apply Exists.intro
              refine ⟨fun w10 h10 => ?_, fun W1 hJ1 hb1 => ?_⟩
              · haveI := Ext.some h10
                have q0 := ext_old h10 (a := ⟨w.heap.size, 3, none⟩) L0.out a3
                have q1 := ext_old h10 (a := ⟨Y, 3, none⟩) L1.out b3
                have q2 := ext_old h10 (a := ⟨bb, o + i * 2, none⟩) L2.out c0
                have q3 := ext_old h10 (a := ⟨bb, o + i * 2 + 1, none⟩) L2.out c1'
                have q4 := ext_old h10 (a := ⟨bg, og + j, none⟩) LG.out kg
                repeat go_big_quiet_step (fail)
                exact wpQuiet_nil rfl
              have hb10 := Lib.hid (hB.out.trans ((J.below hJ1).mono hB.out.size))
              have a3 := ((J.below hJ1).cell (p := ⟨w.heap.size, 3, none⟩) L0.out).trans a3
              have b3 := ((J.below hJ1).cell (p := ⟨Y, 3, none⟩) L1.out).trans b3
              clear hJ1 hb1 hjS c0 c1'
              go_wp2
              go_roundw
              case rel => exact ⟨i + 1, T2, rfl, by have := HLT.out; omega, rfl, HT2, hb10⟩
              case measure => have := HLT.out; simp [intOf]; omega
        · have hin : i = n := by omega
          subst hin
          have i1 : ¬ (i : Int) < (i : Int) := by omega
          go_wp2
          go_ret
          exact ⟨rfl, hjr.out.below⟩

end Go.Proofs.Ytibolhdopeclmaa.Walk
