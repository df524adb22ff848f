/- The walk of OrderAll. -/
import Derived.Test.YtmacnecjgdjdiaaOrdE
import Derived.Test.YtmacnecjgdjdiaaOrdT
import Derived.Test.YtmacnecjgdjdiaaTwoRows
import Derived.OpenShut
import Derived.LoopN
namespace Go.Proofs.Ytmacnecjgdjdiaa.Walk
open Go.RowKit Go.ChangeShapes Go.Proofs.Ytmacnecjgdjdiaa.Plain Go.Proofs.Ytmacnecjgdjdiaa.OrdP Go.Proofs.Ytmacnecjgdjdiaa.Ord Go.Proofs.Ytmacnecjgdjdiaa.Box Go.Proofs.Ytmacnecjgdjdiaa.Held Go.Proofs.Ytmacnecjgdjdiaa.Sees Go.Proofs.Ytmacnecjgdjdiaa.Open
set_option linter.unusedVariables false

theorem fst_no {g c q : Bool} (h : false = (g && !c)) : false = (g && !(c || q)) := by revert h; cases g <;> cases c <;> cases q <;> decide
theorem info_int4 : (Try.prog.info? 3).map (fun i => (i.zero, i.size, i.bytes)) = some (some (.int .i64 0), 1, 8) := by kernel_rfl

set_option maxRecDepth 100000 in
set_option maxHeartbeats 6400000 in
theorem orderAll_walk (w : World) (a0 : Option Addr) (len0 cap0 : Nat) (z0 : List Int) (o' : Int)
    (hl0 : z0.length = len0) (hc0 : len0 ≤ cap0) (hx0 : cap0 ≤ maxLen) (hs0 : Sees w w.heap.size a0 (nums .i64 z0)) (hw0 : ∀ n ∈ z0, (Lit.int .i64 n).wf = true)
    (wo' : (Lit.int .u64 o').wf = true) :
    Calls Try.prog 4 #[.slice a0 len0 cap0, .int .u64 o'] w fun e w' => e = .returned (.bool true) ∧ Below w.heap.size w w' := by
  have bo := bounds_u64 wo'
  obtain ⟨o, rfl⟩ : ∃ o : Nat, o' = o := ⟨o'.toNat, by omega⟩
  have ho : o < 18446744073709551616 := by omega
  clear hw0 wo' bo
  have HA : Hid (∀ W, Hid (Bw w W) → Calls Try.prog 7 #[] W (On w (.bool true))) := Lib.hid fun W hW => on_says hW (awake_any W)
  have K0 : Hid (Bw w w) := Lib.hid (Bw.refl w)
  by_cases hbig : 100 < len0
  · have g1 : (100 : Int) < (len0 : Int) := by omega
    go_enter Try.func4, Try.ntmps4
    go_wp2_with (go_at_call 7; refine (HA.out _ K0).mono ?_; rintro e w1 ⟨rfl, K1⟩)
    go_ret
    exact ⟨rfl, K1.out⟩
  · have g1 : ¬ (100 : Int) < (len0 : Int) := by omega
    have HL0 := Lib.hid hl0
    have HS0 := Lib.hid hs0
    have h100 : len0 ≤ 100 := by omega
    have HO := Lib.hid ho
    obtain ⟨i0, hi, hq0, hq1, hq2⟩ := info_parts info_int4
    clear hl0 hs0 hbig ho
    go_enter Try.func4, Try.ntmps4
    go_wp2_with (go_at_call 7; refine (HA.out _ K0).mono ?_; rintro e w1 ⟨rfl, K1⟩)
    clear HA K0
    go_loopw [6, 7] (fun row i wr => ∃ k n : Nat, k ≤ len0 ∧ i = .int .i64 k ∧ n ≤ k ∧ wr.ownsRow w1.heap.size 3 1 row n (nums .i64 (wd 0 o (z0.take k))) ∧ Below w1.heap.size w1 wr ∧ Hid (n = (wd 0 o (z0.take k)).length)) (fun _ i _ => len0 - (intOf i).toNat)
    case atStart => exact ⟨0, 0, Nat.zero_le _, rfl, Nat.le_refl _, World.ownsRow_nil _ _ _ _, Below.refl _ _, Lib.hid rfl⟩
    case round =>
      obtain ⟨k, n, hk, rfl, hn, hA, hbel, hnl⟩ := hrel
      have hsz := hbel.size
      by_cases hlt : k < len0
      · obtain ⟨b, p, rfl, hbB, hc⟩ := HS0.out.at_ (nums_at .i64 z0 k (by rw [HL0.out]; omega))
        have HT := Lib.hid (take_snoc z0 k (by rw [HL0.out]; omega) 0)
        have hc' := ((K1.out.next hbel).cell (p := ⟨b, p + k, none⟩) hbB).trans hc
        generalize z0[k]?.getD 0 = x at *
        have HWD := Lib.hid (wd_snoc o (z0.take k) x)
        rw [← HT.out] at HWD
        have i2 : (k : Int) < (len0 : Int) := by omega
        have e3 : IntKind.i64.wrap ((k : Int) + 1) = ((k + 1 : Nat) : Int) := by rw [IntWalk.i64_in _ (by omega)]; rfl
        have HC := Lib.hid hc
        have HB := Lib.hid (And.intro hbB (And.intro (K1.out.next hbel) hbel))
        have HA6 := Lib.hid hA
        obtain ⟨g, hg⟩ : ∃ g, (inb x && !hb o x) = g := ⟨_, rfl⟩
        have hw : (x < 0 ∧ g = false) ∨ (¬ x < 0 ∧ 64 ≤ x ∧ g = false) ∨ (¬ x < 0 ∧ ¬ 64 ≤ x ∧ Hid (∀ W, Calls Try.prog 13 #[.int .u64 o, .int .i64 x] W fun e w' => e = .returned (.bool (!g)) ∧ W = w')) := by
          by_cases a : x < 0
          · exact .inl ⟨a, by rw [← hg, inb_no.2 (by omega)]; rfl⟩
          · by_cases b : 64 ≤ x
            · exact .inr (.inl ⟨a, b, by rw [← hg, inb_no.2 (by omega)]; rfl⟩)
            · refine .inr (.inr ⟨a, b, Lib.hid fun W => ?_⟩)
              rw [← hg, inb_iff.2 (by omega), Bool.true_and, Bool.not_not]
              exact Has_any o x W HO.out
        rw [hg] at HWD
        clear hc hg hbB hA
        rcases hw with ⟨x0, rfl⟩ | ⟨x0, x1, rfl⟩ | ⟨x0, x1, HH⟩
        · go_wp2
          clear hc'
          rename World => w0
          go_loopw [8, 9] (fun f j wx => ∃ (m : Nat) (t : Bool), f = .bool t ∧ j = .int .i64 m ∧ m ≤ k ∧ Hid (t = (false && !(z0.take m).contains x)) ∧ Hid (Below w0.heap.size w0 wx)) (fun _ j _ => k - (intOf j).toNat)
          case atStart => exact ⟨0, _, rfl, rfl, Nat.zero_le _, Lib.hid (by simp), Lib.hid (Below.refl _ _)⟩
          case round =>
            obtain ⟨m, t, rfl, rfl, hm, ht, hbx⟩ := hrel
            have hcx := (hbx.out.cell (p := ⟨b, p + k, none⟩) (Nat.lt_of_lt_of_le HB.out.1 HB.out.2.1.size)).trans ((HB.out.2.1.cell (p := ⟨b, p + k, none⟩) HB.out.1).trans HC.out)
            have hbz : b < wr.heap.size := Nat.lt_of_lt_of_le HB.out.1 (Nat.le_trans HB.out.2.1.size hbx.out.size)
            by_cases hlt2 : m < k
            · obtain ⟨b', p', hbo, _, hd⟩ := HS0.out.at_ (nums_at .i64 z0 m (by rw [HL0.out]; omega))
              injection hbo with hbo
              injection hbo with hbo1 hbo2
              subst hbo1 hbo2
              have HT2 := Lib.hid (take_snoc z0 m (by rw [HL0.out]; omega) 0)
              have hdx := (hbx.out.cell (p := ⟨b, p + m, none⟩) (Nat.lt_of_lt_of_le HB.out.1 HB.out.2.1.size)).trans ((HB.out.2.1.cell (p := ⟨b, p + m, none⟩) HB.out.1).trans hd)
              generalize z0[m]?.getD 0 = y at *
              have HCS := Lib.hid (contains_snoc (z0.take m) x y)
              rw [← HT2.out] at HCS
              have j1 : (m : Int) < (k : Int) := by omega
              have j2 : (m : Int) < (len0 : Int) := by omega
              have e4 : IntKind.i64.wrap ((m : Int) + 1) = ((m + 1 : Nat) : Int) := by rw [IntWalk.i64_in _ (by omega)]; rfl
              have hjS : Hid (JS wr [] wr) := Lib.hid (J.start wr)
              clear hd HT2
              have hways : t = false ∨ (t = true ∧ y = x) ∨ (t = true ∧ Hid (¬ y = x) ∧ (y == x) = false) := by
                cases t
                · exact .inl rfl
                · by_cases e : y = x
                  · exact .inr (.inl ⟨rfl, e⟩)
                  · exact .inr (.inr ⟨rfl, Lib.hid e, by simpa using e⟩)
              rcases hways with rfl | ⟨rfl, rfl⟩ | ⟨rfl, hne, hyx⟩
              · go_wp2
                refine wp_region_tail 12 _ JS.closed hjS.out (by kernel_rfl) (by kernel_rfl) ?_
                simp only [List.take_succ_cons, List.take_zero, List.drop_succ_cons, List.drop_zero]
                apply Exists.intro
                refine ⟨fun w2 h2 => ?_, fun W2 hJ2 hb2 => ?_⟩
                · haveI := Ext.some h2
                  repeat go_big_quiet_step (fail)
                  exact wpQuiet_nil rfl
                change wpList _ _ _ _ _ _
                go_wp2
                go_roundw
                case rel => exact ⟨m + 1, false, rfl, rfl, by omega, Lib.hid (by rw [HCS.out]; exact fst_no ht.out), Lib.hid (below_more hbx.out (J.below hJ2) (Nat.le_refl _))⟩
                case measure => simp [intOf]; omega
              · have kx : (y == y) = true := by simp
                go_wp2
                refine wp_region_tail 12 _ JS.closed hjS.out (by kernel_rfl) (by kernel_rfl) ?_
                simp only [List.take_succ_cons, List.take_zero, List.drop_succ_cons, List.drop_zero]
                apply Exists.intro
                refine ⟨fun w2 h2 => ?_, fun W2 hJ2 hb2 => ?_⟩
                · haveI := Ext.some h2
                  have q0 := ext_old h2 (a := ⟨b, p + m, none⟩) hbz hdx
                  have q1 := ext_old h2 (a := ⟨b, p + k, none⟩) hbz hcx
                  repeat go_big_quiet_step (fail)
                  exact wpQuiet_nil rfl
                change wpList _ _ _ _ _ _
                go_wp2
                go_roundw
                case rel => exact ⟨m + 1, false, rfl, rfl, by omega, Lib.hid (by rw [HCS.out]; simp), Lib.hid (below_more hbx.out (J.below hJ2) (Nat.le_refl _))⟩
                case measure => simp [intOf]; omega
              · go_wp2
                refine wp_region_tail 12 _ JS.closed hjS.out (by kernel_rfl) (by kernel_rfl) ?_
                simp only [List.take_succ_cons, List.take_zero, List.drop_succ_cons, List.drop_zero]
                apply Exists.intro
                refine ⟨fun w2 h2 => ?_, fun W2 hJ2 hb2 => ?_⟩
                · haveI := Ext.some h2
                  have q0 := ext_old h2 (a := ⟨b, p + m, none⟩) hbz hdx
                  have q1 := ext_old h2 (a := ⟨b, p + k, none⟩) hbz hcx
                  repeat go_big_quiet_step (fail)
                  exact wpQuiet_nil rfl
                change wpList _ _ _ _ _ _
                go_wp2
                go_roundw
                case rel => exact ⟨m + 1, true, congrArg Value.bool (by rw [bne, hyx]; rfl), rfl, by omega, Lib.hid (by rw [HCS.out, hyx, Bool.or_false]; exact ht.out), Lib.hid (below_more hbx.out (J.below hJ2) (Nat.le_refl _))⟩
                case measure => simp [intOf]; omega
            · obtain rfl : m = k := by omega
              have hA := own_below HA6.out hbx.out (fun g hg => (HA6.out.lt g hg).2)
              have hbel2 : Below w1.heap.size w1 wr := hbel.trans (hbx.out.mono hsz)
              rw [← ht.out] at HWD
              cases t
              · have HWD' := Lib.hid (HWD.out.trans (if_neg (by decide)))
                go_wp2
                go_roundw
                case rel => exact ⟨m + 1, n, by omega, rfl, by omega, by rw [HWD'.out]; exact hA, hbel2, Lib.hid (by rw [HWD'.out]; exact hnl.out)⟩
                case measure => simp [intOf]; omega
              · have HWD' := Lib.hid (HWD.out.trans (if_pos rfl))
                have hsz2 := hbel2.size
                go_wp2_with (first
                  | (at_builtin
                     refine wpList_append_own_at _ rfl (.tmp 64) (.tmp 69) 22 rfl w1.heap.size 3 i0 (.int .i64 0) 1 8 Try.underlying22 hi hq0 hq1 hq2 rfl (by omega) _ n _ rfl (hA.alloc _) ⟨wr.heap.size, 0, none⟩ 1 1 [.int .i64 x] rfl rfl (new_cell _ _ _) (one_cell _ _) (by unfold maxLen; omega) (by omega) (by simp; omega) ?_
                     intro v2 w2 hA2 hg2 _ hat2
                     have hbel3 : Below w1.heap.size w1 w2 := (hbel2.alloc hsz2 _).grown hg2 (by simp; omega) (fun g hg => (hA.lt g hg).1)))
                go_roundw
                case rel => exact ⟨m + 1, n + 1, by omega, rfl, by omega, by rw [HWD'.out, nums_append]; exact hA2, hbel3, Lib.hid (by rw [HWD'.out, List.length_append, hnl.out]; rfl)⟩
                case measure => simp [intOf]; omega
        · go_wp2
          clear hc'
          rename World => w0
          go_loopw [8, 9] (fun f j wx => ∃ (m : Nat) (t : Bool), f = .bool t ∧ j = .int .i64 m ∧ m ≤ k ∧ Hid (t = (false && !(z0.take m).contains x)) ∧ Hid (Below w0.heap.size w0 wx)) (fun _ j _ => k - (intOf j).toNat)
          case atStart => exact ⟨0, _, rfl, rfl, Nat.zero_le _, Lib.hid (by simp), Lib.hid (Below.refl _ _)⟩
          case round =>
            obtain ⟨m, t, rfl, rfl, hm, ht, hbx⟩ := hrel
            have hcx := (hbx.out.cell (p := ⟨b, p + k, none⟩) (Nat.lt_of_lt_of_le HB.out.1 HB.out.2.1.size)).trans ((HB.out.2.1.cell (p := ⟨b, p + k, none⟩) HB.out.1).trans HC.out)
            have hbz : b < wr.heap.size := Nat.lt_of_lt_of_le HB.out.1 (Nat.le_trans HB.out.2.1.size hbx.out.size)
            by_cases hlt2 : m < k
            · obtain ⟨b', p', hbo, _, hd⟩ := HS0.out.at_ (nums_at .i64 z0 m (by rw [HL0.out]; omega))
              injection hbo with hbo
              injection hbo with hbo1 hbo2
              subst hbo1 hbo2
              have HT2 := Lib.hid (take_snoc z0 m (by rw [HL0.out]; omega) 0)
              have hdx := (hbx.out.cell (p := ⟨b, p + m, none⟩) (Nat.lt_of_lt_of_le HB.out.1 HB.out.2.1.size)).trans ((HB.out.2.1.cell (p := ⟨b, p + m, none⟩) HB.out.1).trans hd)
              generalize z0[m]?.getD 0 = y at *
              have HCS := Lib.hid (contains_snoc (z0.take m) x y)
              rw [← HT2.out] at HCS
              have j1 : (m : Int) < (k : Int) := by omega
              have j2 : (m : Int) < (len0 : Int) := by omega
              have e4 : IntKind.i64.wrap ((m : Int) + 1) = ((m + 1 : Nat) : Int) := by rw [IntWalk.i64_in _ (by omega)]; rfl
              have hjS : Hid (JS wr [] wr) := Lib.hid (J.start wr)
              clear hd HT2
              have hways : t = false ∨ (t = true ∧ y = x) ∨ (t = true ∧ Hid (¬ y = x) ∧ (y == x) = false) := by
                cases t
                · exact .inl rfl
                · by_cases e : y = x
                  · exact .inr (.inl ⟨rfl, e⟩)
                  · exact .inr (.inr ⟨rfl, Lib.hid e, by simpa using e⟩)
              rcases hways with rfl | ⟨rfl, rfl⟩ | ⟨rfl, hne, hyx⟩
              · go_wp2
                refine wp_region_tail 12 _ JS.closed hjS.out (by kernel_rfl) (by kernel_rfl) ?_
                simp only [List.take_succ_cons, List.take_zero, List.drop_succ_cons, List.drop_zero]
                apply Exists.intro
                refine ⟨fun w2 h2 => ?_, fun W2 hJ2 hb2 => ?_⟩
                · haveI := Ext.some h2
                  repeat go_big_quiet_step (fail)
                  exact wpQuiet_nil rfl
                change wpList _ _ _ _ _ _
                go_wp2
                go_roundw
                case rel => exact ⟨m + 1, false, rfl, rfl, by omega, Lib.hid (by rw [HCS.out]; exact fst_no ht.out), Lib.hid (below_more hbx.out (J.below hJ2) (Nat.le_refl _))⟩
                case measure => simp [intOf]; omega
              · have kx : (y == y) = true := by simp
                go_wp2
                refine wp_region_tail 12 _ JS.closed hjS.out (by kernel_rfl) (by kernel_rfl) ?_
                simp only [List.take_succ_cons, List.take_zero, List.drop_succ_cons, List.drop_zero]
                apply Exists.intro
                refine ⟨fun w2 h2 => ?_, fun W2 hJ2 hb2 => ?_⟩
                · haveI := Ext.some h2
                  have q0 := ext_old h2 (a := ⟨b, p + m, none⟩) hbz hdx
                  have q1 := ext_old h2 (a := ⟨b, p + k, none⟩) hbz hcx
                  repeat go_big_quiet_step (fail)
                  exact wpQuiet_nil rfl
                change wpList _ _ _ _ _ _
                go_wp2
                go_roundw
                case rel => exact ⟨m + 1, false, rfl, rfl, by omega, Lib.hid (by rw [HCS.out]; simp), Lib.hid (below_more hbx.out (J.below hJ2) (Nat.le_refl _))⟩
                case measure => simp [intOf]; omega
              · go_wp2
                refine wp_region_tail 12 _ JS.closed hjS.out (by kernel_rfl) (by kernel_rfl) ?_
                simp only [List.take_succ_cons, List.take_zero, List.drop_succ_cons, List.drop_zero]
                apply Exists.intro
                refine ⟨fun w2 h2 => ?_, fun W2 hJ2 hb2 => ?_⟩
                · haveI := Ext.some h2
                  have q0 := ext_old h2 (a := ⟨b, p + m, none⟩) hbz hdx
                  have q1 := ext_old h2 (a := ⟨b, p + k, none⟩) hbz hcx
                  repeat go_big_quiet_step (fail)
                  exact wpQuiet_nil rfl
                change wpList _ _ _ _ _ _
                go_wp2
                go_roundw
                case rel => exact ⟨m + 1, true, congrArg Value.bool (by rw [bne, hyx]; rfl), rfl, by omega, Lib.hid (by rw [HCS.out, hyx, Bool.or_false]; exact ht.out), Lib.hid (below_more hbx.out (J.below hJ2) (Nat.le_refl _))⟩
                case measure => simp [intOf]; omega
            · obtain rfl : m = k := by omega
              have hA := own_below HA6.out hbx.out (fun g hg => (HA6.out.lt g hg).2)
              have hbel2 : Below w1.heap.size w1 wr := hbel.trans (hbx.out.mono hsz)
              rw [← ht.out] at HWD
              cases t
              · have HWD' := Lib.hid (HWD.out.trans (if_neg (by decide)))
                go_wp2
                go_roundw
                case rel => exact ⟨m + 1, n, by omega, rfl, by omega, by rw [HWD'.out]; exact hA, hbel2, Lib.hid (by rw [HWD'.out]; exact hnl.out)⟩
                case measure => simp [intOf]; omega
              · have HWD' := Lib.hid (HWD.out.trans (if_pos rfl))
                have hsz2 := hbel2.size
                go_wp2_with (first
                  | (at_builtin
                     refine wpList_append_own_at _ rfl (.tmp 64) (.tmp 69) 22 rfl w1.heap.size 3 i0 (.int .i64 0) 1 8 Try.underlying22 hi hq0 hq1 hq2 rfl (by omega) _ n _ rfl (hA.alloc _) ⟨wr.heap.size, 0, none⟩ 1 1 [.int .i64 x] rfl rfl (new_cell _ _ _) (one_cell _ _) (by unfold maxLen; omega) (by omega) (by simp; omega) ?_
                     intro v2 w2 hA2 hg2 _ hat2
                     have hbel3 : Below w1.heap.size w1 w2 := (hbel2.alloc hsz2 _).grown hg2 (by simp; omega) (fun g hg => (hA.lt g hg).1)))
                go_roundw
                case rel => exact ⟨m + 1, n + 1, by omega, rfl, by omega, by rw [HWD'.out, nums_append]; exact hA2, hbel3, Lib.hid (by rw [HWD'.out, List.length_append, hnl.out]; rfl)⟩
                case measure => simp [intOf]; omega
        · go_wp2_with (go_at_call 13; (with_reducible refine (HH.out _).mono ?_); rintro e w' ⟨rfl, rfl⟩)
          clear hc'
          rename World => w0
          go_loopw [8, 9] (fun f j wx => ∃ (m : Nat) (t : Bool), f = .bool t ∧ j = .int .i64 m ∧ m ≤ k ∧ Hid (t = (g && !(z0.take m).contains x)) ∧ Hid (Below w0.heap.size w0 wx)) (fun _ j _ => k - (intOf j).toNat)
          case atStart => exact ⟨0, _, rfl, rfl, Nat.zero_le _, Lib.hid (by simp), Lib.hid (Below.refl _ _)⟩
          case round =>
            obtain ⟨m, t, rfl, rfl, hm, ht, hbx⟩ := hrel
            have hcx := (hbx.out.cell (p := ⟨b, p + k, none⟩) (Nat.lt_of_lt_of_le HB.out.1 HB.out.2.1.size)).trans ((HB.out.2.1.cell (p := ⟨b, p + k, none⟩) HB.out.1).trans HC.out)
            have hbz : b < wr.heap.size := Nat.lt_of_lt_of_le HB.out.1 (Nat.le_trans HB.out.2.1.size hbx.out.size)
            by_cases hlt2 : m < k
            · obtain ⟨b', p', hbo, _, hd⟩ := HS0.out.at_ (nums_at .i64 z0 m (by rw [HL0.out]; omega))
              injection hbo with hbo
              injection hbo with hbo1 hbo2
              subst hbo1 hbo2
              have HT2 := Lib.hid (take_snoc z0 m (by rw [HL0.out]; omega) 0)
              have hdx := (hbx.out.cell (p := ⟨b, p + m, none⟩) (Nat.lt_of_lt_of_le HB.out.1 HB.out.2.1.size)).trans ((HB.out.2.1.cell (p := ⟨b, p + m, none⟩) HB.out.1).trans hd)
              generalize z0[m]?.getD 0 = y at *
              have HCS := Lib.hid (contains_snoc (z0.take m) x y)
              rw [← HT2.out] at HCS
              have j1 : (m : Int) < (k : Int) := by omega
              have j2 : (m : Int) < (len0 : Int) := by omega
              have e4 : IntKind.i64.wrap ((m : Int) + 1) = ((m + 1 : Nat) : Int) := by rw [IntWalk.i64_in _ (by omega)]; rfl
              have hjS : Hid (JS wr [] wr) := Lib.hid (J.start wr)
              clear hd HT2
              have hways : t = false ∨ (t = true ∧ y = x) ∨ (t = true ∧ Hid (¬ y = x) ∧ (y == x) = false) := by
                cases t
                · exact .inl rfl
                · by_cases e : y = x
                  · exact .inr (.inl ⟨rfl, e⟩)
                  · exact .inr (.inr ⟨rfl, Lib.hid e, by simpa using e⟩)
              rcases hways with rfl | ⟨rfl, rfl⟩ | ⟨rfl, hne, hyx⟩
              · go_wp2
                refine wp_region_tail 12 _ JS.closed hjS.out (by kernel_rfl) (by kernel_rfl) ?_
                simp only [List.take_succ_cons, List.take_zero, List.drop_succ_cons, List.drop_zero]
                apply Exists.intro
                refine ⟨fun w2 h2 => ?_, fun W2 hJ2 hb2 => ?_⟩
                · haveI := Ext.some h2
                  repeat go_big_quiet_step (fail)
                  exact wpQuiet_nil rfl
                change wpList _ _ _ _ _ _
                go_wp2
                go_roundw
                case rel => exact ⟨m + 1, false, rfl, rfl, by omega, Lib.hid (by rw [HCS.out]; exact fst_no ht.out), Lib.hid (below_more hbx.out (J.below hJ2) (Nat.le_refl _))⟩
                case measure => simp [intOf]; omega
              · have kx : (y == y) = true := by simp
                go_wp2
                refine wp_region_tail 12 _ JS.closed hjS.out (by kernel_rfl) (by kernel_rfl) ?_
                simp only [List.take_succ_cons, List.take_zero, List.drop_succ_cons, List.drop_zero]
                apply Exists.intro
                refine ⟨fun w2 h2 => ?_, fun W2 hJ2 hb2 => ?_⟩
                · haveI := Ext.some h2
                  have q0 := ext_old h2 (a := ⟨b, p + m, none⟩) hbz hdx
                  have q1 := ext_old h2 (a := ⟨b, p + k, none⟩) hbz hcx
                  repeat go_big_quiet_step (fail)
                  exact wpQuiet_nil rfl
                change wpList _ _ _ _ _ _
                go_wp2
                go_roundw
                case rel => exact ⟨m + 1, false, rfl, rfl, by omega, Lib.hid (by rw [HCS.out]; simp), Lib.hid (below_more hbx.out (J.below hJ2) (Nat.le_refl _))⟩
                case measure => simp [intOf]; omega
              · go_wp2
                refine wp_region_tail 12 _ JS.closed hjS.out (by kernel_rfl) (by kernel_rfl) ?_
                simp only [List.take_succ_cons, List.take_zero, List.drop_succ_cons, List.drop_zero]
                apply Exists.intro
                refine ⟨fun w2 h2 => ?_, fun W2 hJ2 hb2 => ?_⟩
                · haveI := Ext.some h2
                  have q0 := ext_old h2 (a := ⟨b, p + m, none⟩) hbz hdx
                  have q1 := ext_old h2 (a := ⟨b, p + k, none⟩) hbz hcx
                  repeat go_big_quiet_step (fail)
                  exact wpQuiet_nil rfl
                change wpList _ _ _ _ _ _
                go_wp2
                go_roundw
                case rel => exact ⟨m + 1, true, congrArg Value.bool (by rw [bne, hyx]; rfl), rfl, by omega, Lib.hid (by rw [HCS.out, hyx, Bool.or_false]; exact ht.out), Lib.hid (below_more hbx.out (J.below hJ2) (Nat.le_refl _))⟩
                case measure => simp [intOf]; omega
            · obtain rfl : m = k := by omega
              have hA := own_below HA6.out hbx.out (fun g hg => (HA6.out.lt g hg).2)
              have hbel2 : Below w1.heap.size w1 wr := hbel.trans (hbx.out.mono hsz)
              rw [← ht.out] at HWD
              cases t
              · have HWD' := Lib.hid (HWD.out.trans (if_neg (by decide)))
                go_wp2
                go_roundw
                case rel => exact ⟨m + 1, n, by omega, rfl, by omega, by rw [HWD'.out]; exact hA, hbel2, Lib.hid (by rw [HWD'.out]; exact hnl.out)⟩
                case measure => simp [intOf]; omega
              · have HWD' := Lib.hid (HWD.out.trans (if_pos rfl))
                have hsz2 := hbel2.size
                go_wp2_with (first
                  | (at_builtin
                     refine wpList_append_own_at _ rfl (.tmp 64) (.tmp 69) 22 rfl w1.heap.size 3 i0 (.int .i64 0) 1 8 Try.underlying22 hi hq0 hq1 hq2 rfl (by omega) _ n _ rfl (hA.alloc _) ⟨wr.heap.size, 0, none⟩ 1 1 [.int .i64 x] rfl rfl (new_cell _ _ _) (one_cell _ _) (by unfold maxLen; omega) (by omega) (by simp; omega) ?_
                     intro v2 w2 hA2 hg2 _ hat2
                     have hbel3 : Below w1.heap.size w1 w2 := (hbel2.alloc hsz2 _).grown hg2 (by simp; omega) (fun g hg => (hA.lt g hg).1)))
                go_roundw
                case rel => exact ⟨m + 1, n + 1, by omega, rfl, by omega, by rw [HWD'.out, nums_append]; exact hA2, hbel3, Lib.hid (by rw [HWD'.out, List.length_append, hnl.out]; rfl)⟩
                case measure => simp [intOf]; omega
      · obtain rfl : k = len0 := by omega
        rw [List.take_of_length_le (by rw [HL0.out]; exact Nat.le_refl _)] at hA hnl
        obtain ⟨A, C, rfl, hC, hsA, hltA⟩ := own_form hA
        have KW : Hid (Bw w wr) := Lib.hid (K1.out.next hbel)
        have HS1 := Lib.hid (sees_bw HS0.out KW.out)
        have HSA := Lib.hid hsA
        clear hA hsA hbel hsz HS0 K1
        obtain ⟨zs, hzs⟩ : ∃ zs, wd 0 o z0 = zs := ⟨_, rfl⟩
        rw [hzs] at HSA hnl
        have HZ := Lib.hid hzs
        clear hzs
        go_wp2
        rename World => w0
        go_loopw [10, 11] (fun dd j wx => ∃ (i d : Nat), dd = .int .u64 d ∧ j = .int .i64 i ∧ i ≤ n ∧ Hid (d < 18446744073709551616 ∧ wd d o z0 = zs.drop i) ∧ Hid (Bw w0 wx)) (fun _ j _ => n - (intOf j).toNat)
        case atStart => exact ⟨0, 0, rfl, rfl, Nat.zero_le _, Lib.hid ⟨by decide, HZ.out⟩, Lib.hid (Bw.refl _)⟩
        case round =>
          obtain ⟨i, d, rfl, rfl, hin, hdd, L0⟩ := hrel
          by_cases hlt2 : i < n
          · obtain ⟨b, p, rfl, hbB, hc⟩ := HSA.out.at_ (nums_at .i64 zs i (by rw [← hnl.out]; exact hlt2))
            have hdr : zs.drop i = zs[i]?.getD 0 :: zs.drop (i + 1) := by
              have h9 : i < zs.length := by rw [← hnl.out]; exact hlt2
              rw [List.drop_eq_getElem_cons h9, List.getElem?_eq_getElem h9]; rfl
            generalize zs[i]?.getD 0 = c at *
            obtain ⟨h1, h2, h3⟩ := wd_next (hdd.out.2.trans hdr)
            have h4 : hb d c = false := by
              have h5 := h2
              unfold may at h5
              cases hh : hb d c
              · rfl
              · rw [hh] at h5; simp at h5
            have H1 : Hid (∀ W, Hid (Bw w0 W) → Calls Try.prog 11 #[.slice a0 k cap0, .int .u64 d, .int .u64 o] W (On w0 (.int .i64 c))) := Lib.hid fun W hW => next_on HL0.out (by omega) HS1.out d o hdd.out.1 HO.out c h1 W hW
            have H2 : Hid (∀ W, Calls Try.prog 13 #[.int .u64 d, .int .i64 c] W fun e w' => e = .returned (.bool false) ∧ W = w') := Lib.hid fun W => by rw [← h4]; exact Has_any d c W hdd.out.1
            have H3 : Hid (∀ W, Calls Try.prog 14 #[.int .u64 d, .int .i64 c] W fun e w' => e = .returned (.int .u64 (wi d c : Nat)) ∧ W = w') := Lib.hid fun W => With_any d c W hdd.out.1
            have H4 := Lib.hid (And.intro (wi_lt c hdd.out.1) h3)
            have HB := Lib.hid (And.intro hbB hc)
            have e4 : IntKind.i64.wrap ((i : Int) + 1) = ((i + 1 : Nat) : Int) := by rw [IntWalk.i64_in _ (by omega)]; rfl
            have j1 : (i : Int) < (n : Int) := by omega
            generalize wi d c = u at *
            clear hc hdr h1 h2 h3 h4 hbB
            go_wp2_with (first
              | (go_at_call 11; refine (H1.out _ L0).mono ?_; clear H1; rintro e x1 ⟨rfl, L1⟩; have hcx := (L1.out.cell (p := ⟨b, p + i, none⟩) HB.out.1).trans HB.out.2)
              | (go_at_call 13; refine (H2.out _).mono ?_; rintro e w' ⟨rfl, rfl⟩)
              | (go_at_call 14; refine (H3.out _).mono ?_; rintro e w' ⟨rfl, rfl⟩))
            go_roundw
            case rel => exact ⟨i + 1, u, rfl, rfl, by omega, H4, L1⟩
            case measure => simp [intOf]; omega
          · obtain rfl : i = n := by omega
            have h0 : wd d o z0 = [] := hdd.out.2.trans (List.drop_eq_nil_of_le (by rw [hnl.out]; exact Nat.le_refl _))
            obtain ⟨h1, h2⟩ := wd_end h0
            have H1 : Hid (∀ W, Hid (Bw w0 W) → Calls Try.prog 11 #[.slice a0 k cap0, .int .u64 d, .int .u64 o] W (On w0 (.int .i64 (-1)))) := Lib.hid fun W hW => next_on HL0.out (by omega) HS1.out d o hdd.out.1 HO.out (-1) h1 W hW
            have H2 : Hid (∀ W, Hid (Bw w0 W) → Calls Try.prog 12 #[.slice a0 k cap0, .int .u64 d, .int .u64 o] W (On w0 (.int .i64 0))) := Lib.hid fun W hW => left_on HL0.out (by omega) HS1.out d o hdd.out.1 HO.out 0 h2 W hW
            clear h0 h1 h2
            go_wp2_with (first
              | (go_at_call 11; refine (H1.out _ L0).mono ?_; clear H1; rintro e x1 ⟨rfl, L1⟩)
              | (go_at_call 12; refine (H2.out _ L1).mono ?_; rintro e x2 ⟨rfl, L2⟩))
            go_ret
            exact ⟨rfl, KW.out.next L2.out⟩
end Go.Proofs.Ytmacnecjgdjdiaa.Walk
