/- The walk of MeterOrder. -/
import Derived.Test.YtnojenokeggpoaaMetC
import Derived.Test.YtnojenokeggpoaaOpen
import Derived.Test.YtnojenokeggpoaaTwoRows
import Derived.OpenShut
import Derived.LoopN
namespace Go.Proofs.Ytnojenokeggpoaa.Walk
open Go.RowKit Go.ChangeShapes Go.Proofs.Ytnojenokeggpoaa.SatP Go.Proofs.Ytnojenokeggpoaa.MetP Go.Proofs.Ytnojenokeggpoaa.Mtr Go.Proofs.Ytnojenokeggpoaa.Box Go.Proofs.Ytnojenokeggpoaa.Sees Go.Proofs.Ytnojenokeggpoaa.Plain
set_option linter.unusedVariables false

theorem info_intO : (Try.prog.info? 3).map (fun i => (i.zero, i.size, i.bytes)) = some (some (.int .i64 0), 1, 8) := by kernel_rfl
theorem rev_take (z : List Int) (n k : Nat) (h : z.length = n) (hk : k < n) : z.reverse.take (k + 1) = z.reverse.take k ++ [z[n - 1 - k]?.getD 0] := by
  rw [take_snoc z.reverse k (by simpa [h] using hk) 0, List.getElem?_reverse (by omega), h]
/-- what is given back -/
def bk (x : Int) : Int := min x (-x)
theorem bk_le (x : Int) : bk x ≤ 0 := by unfold bk; omega

set_option maxRecDepth 100000 in
set_option maxHeartbeats 6400000 in
theorem meterOrder_walk (w : World) (a0 : Option Addr) (len0 cap0 : Nat) (z0 : List Int) (a1 : Option Addr) (len1 cap1 : Nat) (z1 : List Int)
    (hl0 : z0.length = len0) (hc0 : len0 ≤ cap0) (hx0 : cap0 ≤ maxLen) (hs0 : Sees w w.heap.size a0 (nums .i32 z0)) (hw0 : ∀ n ∈ z0, (Lit.int .i32 n).wf = true)
    (hl1 : z1.length = len1) (hc1 : len1 ≤ cap1) (hx1 : cap1 ≤ maxLen) (hs1 : Sees w w.heap.size a1 (nums .i32 z1)) (hw1 : ∀ n ∈ z1, (Lit.int .i32 n).wf = true) :
    Calls Try.prog 4 #[.slice a0 len0 cap0, .slice a1 len1 cap1] w fun e w' => e = .returned (.bool true) ∧ Below w.heap.size w w' := by
  unfold maxLen at hx0 hx1
  have HL0 := Lib.hid hl0
  have HL1 := Lib.hid hl1
  have HS0 := Lib.hid hs0
  have HS1 := Lib.hid hs1
  have HZ0 : Hid (∀ x ∈ z0, -2147483648 ≤ x ∧ x ≤ 2147483647) := Lib.hid fun x hx => bounds_i32 (hw0 x hx)
  have HZ1 : Hid (∀ x ∈ z1, -2147483648 ≤ x ∧ x ≤ 2147483647) := Lib.hid fun x hx => bounds_i32 (hw1 x hx)
  clear hl0 hs0 hw0 hl1 hs1 hw1
  obtain ⟨i0, hi, hq0, hq1, hq2⟩ := info_parts info_intO
  have HA : Hid (∀ W, Calls Try.prog 6 #[] W (Says W (.bool true))) := Lib.hid fun W => awake_any W
  by_cases hbig : 100 < len0 ∨ 100 < len1
  · rcases Nat.lt_or_ge 100 len0 with h | h
    · have g1 : (100 : Int) < (len0 : Int) := by omega
      have d1 : decide ((100 : Int) < (len0 : Int)) = true := by simpa using g1
      go_enter Try.func4, Try.ntmps4
      go_wp2_with (go_at_call 6; refine (HA.out _).mono ?_; rintro e w1 ⟨rfl, h1⟩)
      go_ret
      exact ⟨rfl, h1⟩
    · have g1 : ¬ (100 : Int) < (len0 : Int) := by omega
      have d1 : decide ((100 : Int) < (len0 : Int)) = false := by simpa using g1
      have g2 : (100 : Int) < (len1 : Int) := by omega
      have d2 : decide ((100 : Int) < (len1 : Int)) = true := by simpa using g2
      go_enter Try.func4, Try.ntmps4
      go_wp2_with (go_at_call 6; refine (HA.out _).mono ?_; rintro e w1 ⟨rfl, h1⟩)
      go_ret
      exact ⟨rfl, h1⟩
  · have g1 : ¬ (100 : Int) < (len0 : Int) := by omega
    have d1 : decide ((100 : Int) < (len0 : Int)) = false := by simpa using g1
    have g2 : ¬ (100 : Int) < (len1 : Int) := by omega
    have d2 : decide ((100 : Int) < (len1 : Int)) = false := by simpa using g2
    go_enter Try.func4, Try.ntmps4
    go_wp2_with (go_at_call 6; refine (HA.out _).mono ?_; clear HA; rintro e w1 ⟨rfl, hd1⟩)
    go_loopw [6, 7, 8] (fun a b i wr => ∃ k : Nat, k ≤ len0 ∧ i = .int .i64 k ∧ wr.ownsRow w1.heap.size 3 1 a k (nums .i64 (z0.take k)) ∧ wr.ownsRow w1.heap.size 3 1 b k (nums .i64 (z0.reverse.take k)) ∧ Apart a b ∧ Below w1.heap.size w1 wr) (fun _ _ i _ => len0 - (intOf i).toNat)
    case atStart => exact ⟨0, Nat.zero_le _, rfl, World.ownsRow_nil _ _ _ _, World.ownsRow_nil _ _ _ _, (fun g hg => by cases hg), Below.refl _ _⟩
    case round =>
      obtain ⟨k, hk, rfl, hA, hB, hap, hbel⟩ := hrel
      have hsz := hbel.size
      by_cases hlt : k < len0
      · obtain ⟨b, o, rfl, hbB, hc⟩ := HS0.out.at_ (nums_at .i32 z0 k (by rw [HL0.out]; exact hlt))
        obtain ⟨b', o', hbo, _, hd⟩ := HS0.out.at_ (nums_at .i32 z0 (len0 - 1 - k) (by rw [HL0.out]; omega))
        injection hbo with hbo
        injection hbo with hbo1 hbo2
        subst hbo1 hbo2
        have hall := hd1.trans (hbel.mono hd1.size)
        have hc' := (bcell hall b (o + k) hbB).trans hc
        have hd' := (bcell hall b (o + (len0 - 1 - k)) hbB).trans hd
        have hx := HZ0.out _ (get_mem z0 k (by rw [HL0.out]; exact hlt) 0)
        have hy := HZ0.out _ (get_mem z0 (len0 - 1 - k) (by rw [HL0.out]; omega) 0)
        have HT := Lib.hid (take_snoc z0 k (by rw [HL0.out]; exact hlt) 0)
        have HR := Lib.hid (rev_take z0 len0 k HL0.out hlt)
        have HC := Lib.hid hc
        have HD := Lib.hid hd
        clear hc hd
        generalize z0[k]?.getD 0 = x at *
        generalize z0[len0 - 1 - k]?.getD 0 = y at *
        obtain ⟨m, hm⟩ : ∃ m, len0 - 1 - k = m := ⟨_, rfl⟩
        rw [hm] at hd'
        have HD : Hid (w.cell? ⟨b, o + m, none⟩ = some (.int .i32 y)) := Lib.hid (by rw [← hm]; exact HD.out)
        have hmm : ((len0 : Int) - 1 - (k : Int)).toNat = m := by omega
        have hml : (len0 : Int) - 1 - (k : Int) < (len0 : Int) := by omega
        have hm0 : (0 : Int) ≤ (len0 : Int) - 1 - (k : Int) := by omega
        have hm1 : m < len0 := by omega
        clear hm
        obtain ⟨x1, x2⟩ := hx
        obtain ⟨y1, y2⟩ := hy
        go_wp2_with (first
          | (at_builtin
             refine wpList_append_own_at _ rfl (.tmp 32) (.tmp 38) 26 rfl w1.heap.size 3 i0 (.int .i64 0) 1 8 Try.underlying26 hi hq0 hq1 hq2 rfl (by omega) u6 k _ rfl (hA.alloc _) ⟨wr.heap.size, 0, none⟩ 1 1 [.int .i64 x] rfl rfl (new_cell _ _ _) (one_cell _ _) (by unfold maxLen; omega) (by omega) (by simp; omega) ?_
             intro v2 w2 hA2 hg2 _ hat2
             have hB2 := own_apart (hB.alloc _) hg2 hap
             have hap2 := Apart.grown (hB.alloc _) hap hat2
             have hbel2 : Below w1.heap.size w1 w2 := (hbel.alloc hsz _).grown hg2 (by simp; omega) (fun g hg => (hA.lt g hg).1)
             have hc2 := (bcell (hd1.trans (hbel2.mono hd1.size)) b (o + k) hbB).trans HC.out
             have hd2 := (bcell (hd1.trans (hbel2.mono hd1.size)) b (o + m) hbB).trans HD.out)
          | (at_builtin
             refine wpList_append_own_at _ rfl (.tmp 40) (.tmp 50) 26 rfl w1.heap.size 3 i0 (.int .i64 0) 1 8 Try.underlying26 hi hq0 hq1 hq2 rfl (by omega) u7 k _ rfl (hB2.alloc _) ⟨w2.heap.size, 0, none⟩ 1 1 [.int .i64 y] rfl rfl (new_cell _ _ _) (one_cell _ _) (by unfold maxLen; omega) (by omega) (by have := hbel2.size; simp; omega) ?_
             intro v3 w3 hB3 hg3 _ hat3
             have hA3 := own_apart (hA2.alloc _) hg3 hap2.symm
             have hap3 := Apart.grown (hA2.alloc _) hap2.symm hat3
             have hbel3 : Below w1.heap.size w1 w3 := (hbel2.alloc hbel2.size _).grown hg3 (by have := hbel2.size; simp; omega) (fun g hg => (hB2.lt g hg).1)
             have hc3 := (bcell (hd1.trans (hbel3.mono hd1.size)) b (o + k) hbB).trans HC.out))
        go_roundw
        case rel =>
          refine ⟨k + 1, by omega, by go_num, ?_, ?_, hap3.symm, hbel3⟩
          · rw [HT.out, nums_append]; exact hA3
          · rw [HR.out, nums_append]; exact hB3
        case measure => simp [intOf]; omega
      · obtain rfl : k = len0 := by omega
        rw [List.take_of_length_le (by rw [HL0.out]; exact Nat.le_refl _)] at hA
        rw [List.take_of_length_le (by rw [List.length_reverse, HL0.out]; exact Nat.le_refl _)] at hB
        have hz1 : k ≤ 100 := by omega
        go_wp2
        go_loopw [7, 9, 10] (fun b i _ wr => ∃ j : Nat, j ≤ len1 ∧ i = .int .i64 j ∧ wr.ownsRow w1.heap.size 3 1 u6 k (nums .i64 z0) ∧ wr.ownsRow w1.heap.size 3 1 b (k + j) (nums .i64 (z0.reverse ++ (z1.take j).map bk)) ∧ Apart u6 b ∧ Below w1.heap.size w1 wr) (fun _ i _ _ => len1 - (intOf i).toNat)
        case atStart => exact ⟨0, Nat.zero_le _, rfl, hA, by simpa using hB, hap, hbel⟩
        case round =>
          clear hA hB hap hbel hsz
          obtain ⟨j, hj, rfl, hA, hB, hap, hbel⟩ := hrel
          have hsz := hbel.size
          by_cases hlt2 : j < len1
          · obtain ⟨b, o, rfl, hbB, hc⟩ := HS1.out.at_ (nums_at .i32 z1 j (by rw [HL1.out]; exact hlt2))
            have hall := hd1.trans (hbel.mono hd1.size)
            have hc' := (bcell hall b (o + j) hbB).trans hc
            have hx := HZ1.out _ (get_mem z1 j (by rw [HL1.out]; exact hlt2) 0)
            have HT := Lib.hid (take_snoc z1 j (by rw [HL1.out]; exact hlt2) 0)
            clear hc
            generalize z1[j]?.getD 0 = x at *
            obtain ⟨m, hm⟩ : ∃ m, -x = m := ⟨_, rfl⟩
            have e1 : IntKind.i64.wrap (-x) = m := by rw [hm]; exact IntWalk.i64_in _ (by omega)
            obtain ⟨q, hq⟩ : ∃ q, bk x = q := ⟨_, rfl⟩
            have mn : ∀ W, (Builtin.min_ #[3, 3] 3 #[.int .i64 x, .int .i64 m]).run Try.prog W = .ok (.int .i64 q) W := fun W => by
              rw [run_min_int2]; congr 2; unfold bk at hq; split <;> omega
            have HQ := Lib.hid hq
            clear hm hq
            obtain ⟨x1, x2⟩ := hx
            go_wp2_with (first
              | (at_builtin
                 refine wpList_append_own_at _ rfl (.tmp 63) (.tmp 68) 26 rfl w1.heap.size 3 i0 (.int .i64 0) 1 8 Try.underlying26 hi hq0 hq1 hq2 rfl (by omega) u7 (k + j) _ rfl (hB.alloc _) ⟨wr.heap.size, 0, none⟩ 1 1 [.int .i64 q] rfl rfl (new_cell _ _ _) (one_cell _ _) (by unfold maxLen; omega) (by omega) (by simp; omega) ?_
                 intro v2 w2 hB2 hg2 _ hat2
                 have hA2 := own_apart (hA.alloc _) hg2 hap.symm
                 have hap2 := Apart.grown (hA.alloc _) hap.symm hat2
                 have hbel2 : Below w1.heap.size w1 w2 := (hbel.alloc hsz _).grown hg2 (by simp; omega) (fun g hg => (hB.lt g hg).1)))
            go_roundw
            case rel =>
              refine ⟨j + 1, by omega, by go_num, hA2, ?_, hap2.symm, hbel2⟩
              rw [HT.out, List.map_append, ← List.append_assoc, nums_append, List.map_cons, HQ.out]
              exact hB2
            case measure => simp [intOf]; omega
          · obtain rfl : j = len1 := by omega
            rw [List.take_of_length_le (by rw [HL1.out]; exact Nat.le_refl _)] at hB
            obtain ⟨A, CA, rfl, hCA, hsA, hltA⟩ := own_form hA
            obtain ⟨B, CB, rfl, hCB, hsB, hltB⟩ := own_form hB
            have HE := Lib.hid (dv_order z0 (z1.map bk) (fun x hx => by obtain ⟨y, _, rfl⟩ := List.mem_map.1 hx; exact bk_le y))
            have hp := dv_nonneg z0
            have HSA := Lib.hid hsA
            have HSB := Lib.hid hsB
            have HBE := Lib.hid (hd1.trans (hbel.mono hd1.size))
            clear hA hB hap hbel hsA hsB hltA hltB hCA hCB
            have H1 : Hid (∀ W, J wr W [(wr.heap.size + 1, cells 0 0 0), (wr.heap.size, cells 0 0 0)] → Calls Try.prog 9 #[.pointer (some ⟨wr.heap.size, 0, none⟩), .slice A k CA] W fun e w' => e = .returned (.int .i64 (dv z0)) ∧ J wr w' [(wr.heap.size, cells (dv z0) (max 0 (dv z0)) 1), (wr.heap.size + 1, cells 0 0 0)]) := Lib.hid fun W hj =>
              (tick_any z0 A k CA wr.heap.size 0 0 0 W HL0.out (by omega) ((HSA.out.below hj.below (Nat.le_refl _)).more hj.below.size) (hj.bx 1 rfl) (by omega)).mono fun e w' ⟨h1, h2⟩ => ⟨h1, j_tick (hj.less (bs' := [(wr.heap.size, cells 0 0 0), (wr.heap.size + 1, cells 0 0 0)]) fun x hx => by simp at hx ⊢; exact hx.symm) (Nat.le_refl _) (fun x hx => by rw [List.mem_singleton.1 hx]; simp) h2⟩
            have H2 : Hid (∀ W X, J wr W [(X, #[.int .i64 7]), (wr.heap.size, cells (dv z0) (max 0 (dv z0)) 1), (wr.heap.size + 1, cells 0 0 0)] → Calls Try.prog 9 #[.pointer (some ⟨wr.heap.size + 1, 0, none⟩), .slice (some ⟨X, 0, none⟩) 1 1] W fun e w' => e = .returned (.int .i64 7) ∧ J wr w' [(wr.heap.size + 1, cells 7 7 1), (wr.heap.size, cells (dv z0) (max 0 (dv z0)) 1)]) := Lib.hid fun W X hj =>
              (tick_any [7] _ 1 1 (wr.heap.size + 1) 0 0 0 W rfl (by omega) (sees_bx (hj.bx 0 rfl)) (hj.bx 2 rfl) (by omega)).mono fun e w' ⟨h1, h2⟩ => ⟨h1, j_tick (hj.less (bs' := [(wr.heap.size + 1, cells 0 0 0), (wr.heap.size, cells (dv z0) (max 0 (dv z0)) 1)]) fun x hx => by simp at hx ⊢; rcases hx with rfl | rfl <;> simp) (Nat.le_succ _) (fun x hx => by rw [List.mem_singleton.1 hx]; simp) h2⟩
            have H3 : Hid (∀ W, J wr W [(wr.heap.size + 1, cells 7 7 1), (wr.heap.size, cells (dv z0) (max 0 (dv z0)) 1)] → Calls Try.prog 9 #[.pointer (some ⟨wr.heap.size + 1, 0, none⟩), .slice B (k + j) CB] W fun e w' => e = .returned (.int .i64 (dv z0)) ∧ J wr w' [(wr.heap.size + 1, cells (dv z0) (max 7 (dv z0)) 2), (wr.heap.size, cells (dv z0) (max 0 (dv z0)) 1)]) := Lib.hid fun W hj =>
              (tick_any (z0.reverse ++ z1.map bk) B (k + j) CB (wr.heap.size + 1) 7 7 1 W (by simp [HL0.out, HL1.out]) (by omega) ((HSB.out.below hj.below (Nat.le_refl _)).more hj.below.size) (hj.bx 0 rfl) (by omega)).mono fun e w' ⟨h1, h2⟩ => by
                rw [HE.out] at h1 h2
                exact ⟨h1, j_tick hj (Nat.le_succ _) (fun x hx => by rw [List.mem_singleton.1 hx]; simp) h2⟩
            generalize dv z0 = d at *
            rw [show max 0 d = d by omega] at H1 H2 H3
            obtain ⟨m, hm⟩ : ∃ m, max 7 d = m := ⟨_, rfl⟩
            rw [hm] at H3
            have mx : ∀ W, (Builtin.max_ #[3, 3] 3 #[.int .i64 d, .int .i64 7]).run Try.prog W = .ok (.int .i64 m) W := fun W => by
              rw [run_max_int2]; congr 2; split <;> omega
            have e1 : (d == d) = true := by simp
            have e2 : (m == m) = true := by simp
            have hj0 := Lib.hid (J.two wr (cells 0 0 0) (cells 0 0 0) 39 39)
            unfold cells at H1 H2 H3 hj0
            clear hm hp
            go_wp2_with (first
              | (go_at_call 7; refine (New_any _).mono ?_; rintro e w' ⟨rfl, rfl⟩)
              | (go_at_call 9; (with_reducible refine (H1.out _ hj0.out).mono ?_); clear H1; rintro e w4 ⟨rfl, h4⟩; have hj4 := Lib.hid (h4.push #[.int .i64 7] 3); clear h4)
              | (go_at_call 9; (with_reducible refine (H2.out _ _ hj4.out).mono ?_); clear H2; rintro e w5 ⟨rfl, h5⟩; have hj5 := Lib.hid h5; clear h5)
              | (go_at_call 9; (with_reducible refine (H3.out _ hj5.out).mono ?_); clear H3; rintro e w6 ⟨rfl, h6⟩; have hj6 := Lib.hid h6; clear h6; obtain ⟨c0, c1, c2⟩ := (hj6.out.bx 0 rfl).c3; obtain ⟨p0, p1, p2⟩ := (hj6.out.bx 1 rfl).c3)
              | (go_at_call 10; refine (last_any _ d _ p0).mono ?_; rintro e w' ⟨rfl, rfl⟩)
              | (go_at_call 11; ((with_reducible refine (high_any wr.heap.size d _ p1).mono ?_); rintro e w' ⟨rfl, rfl⟩))
              | (go_at_call 11; ((with_reducible refine (high_any (wr.heap.size + 1) m _ c1).mono ?_); rintro e w' ⟨rfl, rfl⟩)))
            go_ret
            exact ⟨rfl, HBE.out.trans (hj6.out.below.mono HBE.out.size)⟩

end Go.Proofs.Ytnojenokeggpoaa.Walk
