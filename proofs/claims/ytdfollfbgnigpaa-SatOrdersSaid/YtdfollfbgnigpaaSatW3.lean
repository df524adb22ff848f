/- The walk of SatOrders. -/
import Derived.Test.YtdfollfbgnigpaaSatW2
import Derived.Test.YtdfollfbgnigpaaTwoRows
namespace Go.Proofs.Ytdfollfbgnigpaa.Walk
open Go.RowKit Go.ChangeShapes Go.Proofs.Ytdfollfbgnigpaa.Sees Go.Proofs.Ytdfollfbgnigpaa.SatP Go.Proofs.Ytdfollfbgnigpaa.Sat Go.Proofs.Ytdfollfbgnigpaa.Plain
set_option linter.unusedVariables false

theorem rev_take (z : List Int) (n k : Nat) (h : z.length = n) (hk : k < n) : z.reverse.take (k + 1) = z.reverse.take k ++ [z[n - 1 - k]?.getD 0] := by
  rw [take_snoc z.reverse k (by simpa [h] using hk) 0, List.getElem?_reverse (by omega), h]
theorem small_sub {z r : List Int} (h : ∀ x ∈ z, -2147483648 ≤ x ∧ x ≤ 2147483647) (hs : ∀ x ∈ r, x ∈ z) : ∀ x ∈ r, -2147483648 ≤ x ∧ x ≤ 2147483647 := fun x hx => h x (hs x hx)
theorem tot_bd (l : List Int) (hl : l.length ≤ 200) (h : ∀ x ∈ l, -2147483648 ≤ x ∧ x ≤ 2147483647) : -429496729600 ≤ SatP.tot l ∧ SatP.tot l ≤ 429496729600 := by
  have := tot_small l h
  omega

/-- a row of numbers whose sum meets no bound -/
theorem sum_says (W : World) (A : Option Addr) (len cap : Nat) (r : List Int) (t : Int) (hl : r.length = len) (hm : len ≤ 200) (hb : ∀ x ∈ r, -2147483648 ≤ x ∧ x ≤ 2147483647) (ht : SatP.tot r = t) (hs : Sees W W.heap.size A (nums .i64 r)) :
    Calls Try.prog 14 #[.slice A len cap] W (Pair W t false) := by
  have := sum_small r (by omega) hb
  rw [ht] at this
  have h := Sum_any r A len cap W hl (by unfold maxLen; omega) hs
  rwa [this.1, this.2] at h

theorem sees_take {w : World} {B : Nat} {a : Option Addr} {xs : List Value} (h : Sees w B a xs) (n : Nat) : Sees w B a (xs.take n) := by
  rcases h with h | ⟨b, o, ha, hb, hc⟩
  · subst h; exact .inl (by simp)
  · refine .inr ⟨b, o, ha, hb, fun j u hu => hc j u ?_⟩
    rw [List.getElem?_take] at hu
    split at hu
    · exact hu
    · cases hu


set_option maxRecDepth 100000 in
set_option maxHeartbeats 3200000 in
theorem satOrders_walk (w : World) (a0 : Option Addr) (len0 cap0 : Nat) (z0 : List Int) (c : Int)
    (hl0 : z0.length = len0) (hc0 : len0 ≤ cap0) (hx0 : cap0 ≤ maxLen) (hs0 : Sees w w.heap.size a0 (nums .i32 z0)) (hw0 : ∀ n ∈ z0, (Lit.int .i32 n).wf = true) (hc : (Lit.int .u8 c).wf = true) :
    Calls Try.prog 5 #[.slice a0 len0 cap0, .int .u8 c] w fun e w' => e = .returned (.bool true) ∧ Below w.heap.size w w' := by
  unfold maxLen at hx0
  have hz0 : ∀ x ∈ z0, -2147483648 ≤ x ∧ x ≤ 2147483647 := fun x hx => bounds_i32 (hw0 x hx)
  obtain ⟨c1, c2⟩ := bounds_u8 hc
  have HL0 := Lib.hid hl0
  have HZ0 := Lib.hid hz0
  clear hl0 hw0 hc hz0
  by_cases hbig : 200 < len0
  · go_enter Try.func5, Try.ntmps5
    go_wp2_with (go_at_call 9; refine (awake_any _).mono ?_; rintro e w1 ⟨rfl, hd1⟩)
    go_ret
    exact ⟨rfl, hd1⟩
  · have h1 : len0 ≤ 200 := by omega
    clear hbig
    obtain ⟨i0, hi, hq0, hq1, hq2⟩ := info_parts info_i64
    go_enter Try.func5, Try.ntmps5
    go_wp2_with (go_at_call 9; refine (awake_any _).mono ?_; rintro e w1 ⟨rfl, hd1⟩)
    go_loopw [6, 7, 8, 9] (fun a b s i wr => ∃ k : Nat, k ≤ len0 ∧ i = .int .i64 k ∧ s = .int .i64 (SatP.tot (z0.take k)) ∧ wr.ownsRow w1.heap.size 2 1 a k (nums .i64 (z0.take k)) ∧ wr.ownsRow w1.heap.size 2 1 b k (nums .i64 (z0.reverse.take k)) ∧ Apart a b ∧ Below w1.heap.size w1 wr) (fun _ _ _ i _ => len0 - (intOf i).toNat)
    case atStart => exact ⟨0, Nat.zero_le _, rfl, rfl, World.ownsRow_nil _ _ _ _, World.ownsRow_nil _ _ _ _, (fun g hg => by cases hg), Below.refl _ _⟩
    case round =>
      obtain ⟨k, hk, rfl, rfl, hA, hB, hap, hbel⟩ := hrel
      have hsz := hbel.size
      by_cases hlt : k < len0
      · obtain ⟨b, o, rfl, hbB, hc⟩ := hs0.at_ (nums_at .i32 z0 k (by rw [HL0.out]; exact hlt))
        obtain ⟨b', o', hbo, _, hd⟩ := hs0.at_ (nums_at .i32 z0 (len0 - 1 - k) (by rw [HL0.out]; omega))
        injection hbo with hbo
        injection hbo with hbo1 hbo2
        subst hbo1 hbo2
        have hall := hd1.trans (hbel.mono hd1.size)
        have hc' := (bcell hall b (o + k) hbB).trans hc
        have hd' := (bcell hall b (o + (len0 - 1 - k)) hbB).trans hd
        have hx := HZ0.out _ (get_mem z0 k (by rw [HL0.out]; exact hlt) 0)
        have hy := HZ0.out _ (get_mem z0 (len0 - 1 - k) (by rw [HL0.out]; omega) 0)
        have HT := Lib.hid (take_snoc z0 k (by rw [HL0.out]; exact hlt) 0)
        have HR := Lib.hid (rev_take z0 len0 k HL0.out hlt)
        have ht := tot_bd (z0.take k) (by simp; omega) (small_sub HZ0.out fun x hx => List.mem_of_mem_take hx)
        have HC := Lib.hid hc
        have HD := Lib.hid hd
        clear hc hd
        generalize z0[k]?.getD 0 = x at *
        generalize z0[len0 - 1 - k]?.getD 0 = y at *
        generalize hT : SatP.tot (z0.take k) = t at *
        have HTT := Lib.hid hT
        obtain ⟨m, hm⟩ : ∃ m, len0 - 1 - k = m := ⟨_, rfl⟩
        rw [hm] at hd'
        have HD : Hid (w.cell? ⟨b, o + m, none⟩ = some (.int .i32 y)) := Lib.hid (by rw [← hm]; exact HD.out)
        have hmm : ((len0 : Int) - 1 - (k : Int)).toNat = m := by omega
        have hml : (len0 : Int) - 1 - (k : Int) < (len0 : Int) := by omega
        have hm0 : (0 : Int) ≤ (len0 : Int) - 1 - (k : Int) := by omega
        have hm1 : m < len0 := by omega
        clear hT hm
        obtain ⟨x1, x2⟩ := hx
        obtain ⟨y1, y2⟩ := hy
        obtain ⟨t1, t2⟩ := ht
        go_wp2_with (first
          | (at_builtin
             refine wpList_append_own_at _ rfl (.tmp 31) (.tmp 37) 26 rfl w1.heap.size 2 i0 (.int .i64 0) 1 8 Try.underlying26 hi hq0 hq1 hq2 rfl (by omega) u6 k _ rfl (hA.alloc _) ⟨wr.heap.size, 0, none⟩ 1 1 [.int .i64 x] rfl rfl (new_cell _ _ _) (one_cell _ _) (by unfold maxLen; omega) (by omega) (by simp; omega) ?_
             intro v2 w2 hA2 hg2 _ hat2
             have hB2 := own_apart (hB.alloc _) hg2 hap
             have hap2 := Apart.grown (hB.alloc _) hap hat2
             have hbel2 : Below w1.heap.size w1 w2 := (hbel.alloc hsz _).grown hg2 (by simp; omega) (fun g hg => (hA.lt g hg).1)
             have hc2 := (bcell (hd1.trans (hbel2.mono hd1.size)) b (o + k) hbB).trans HC.out
             have hd2 := (bcell (hd1.trans (hbel2.mono hd1.size)) b (o + m) hbB).trans HD.out)
          | (at_builtin
             refine wpList_append_own_at _ rfl (.tmp 39) (.tmp 49) 26 rfl w1.heap.size 2 i0 (.int .i64 0) 1 8 Try.underlying26 hi hq0 hq1 hq2 rfl (by omega) u7 k _ rfl (hB2.alloc _) ⟨w2.heap.size, 0, none⟩ 1 1 [.int .i64 y] rfl rfl (new_cell _ _ _) (one_cell _ _) (by unfold maxLen; omega) (by omega) (by have := hbel2.size; simp; omega) ?_
             intro v3 w3 hB3 hg3 _ hat3
             have hA3 := own_apart (hA2.alloc _) hg3 hap2.symm
             have hap3 := Apart.grown (hA2.alloc _) hap2.symm hat3
             have hbel3 : Below w1.heap.size w1 w3 := (hbel2.alloc hbel2.size _).grown hg3 (by have := hbel2.size; simp; omega) (fun g hg => (hB2.lt g hg).1)
             have hc3 := (bcell (hd1.trans (hbel3.mono hd1.size)) b (o + k) hbB).trans HC.out))
        go_roundw
        case rel =>
          refine ⟨k + 1, by omega, by go_num, ?_, ?_, ?_, hap3.symm, hbel3⟩
          · rw [HT.out, SatP.tot_append, HTT.out, SatP.tot_one]
          · rw [HT.out, nums_append]; exact hA3
          · rw [HR.out, nums_append]; exact hB3
        case measure => simp [intOf]; omega
      · obtain rfl : k = len0 := by omega
        have hzl : z0.take k = z0 := List.take_of_length_le (by rw [HL0.out]; exact Nat.le_refl _)
        have hrl : z0.reverse.take k = z0.reverse := List.take_of_length_le (by rw [List.length_reverse, HL0.out]; exact Nat.le_refl _)
        rw [hzl] at hA
        rw [hrl] at hB
        rw [hzl]
        clear hzl hrl
        obtain ⟨A, CA, rfl, hCA, hsA, hltA⟩ := own_form hA
        obtain ⟨B, CB, rfl, hCB, hsB, hltB⟩ := own_form hB
        obtain ⟨n, rfl⟩ := Int.eq_ofNat_of_zero_le c1
        obtain ⟨q, hq⟩ : ∃ q, n % (k + 1) = q := ⟨_, rfl⟩
        have hqk : q ≤ k := by have := Nat.mod_lt n (show 0 < k + 1 by omega); omega
        have hmod : (n : Int) % ((k : Int) + 1) = (q : Int) := by rw [← hq]; simp
        have hall := hd1.trans (hbel.mono hd1.size)
        have htd : SatP.tot (z0.take q) + SatP.tot (z0.drop q) = SatP.tot z0 := by rw [← SatP.tot_append, List.take_append_drop]
        have bt := tot_bd z0 (by rw [HL0.out]; exact h1) HZ0.out
        have bu := tot_bd (z0.take q) (by simp; omega) (small_sub HZ0.out fun x hx => List.mem_of_mem_take hx)
        have bv := tot_bd (z0.drop q) (by rw [List.length_drop, HL0.out]; omega) (small_sub HZ0.out fun x hx => List.mem_of_mem_drop hx)
        have hS1 : ∀ W, Below wr.heap.size wr W → Calls Try.prog 14 #[.slice A k CA] W (Pair W (SatP.tot z0) false) := fun W hW =>
          sum_says W A k CA z0 _ HL0.out h1 HZ0.out rfl ((hsA.below hW (Nat.le_refl _)).more hW.size)
        have hS2 : ∀ W, Below wr.heap.size wr W → Calls Try.prog 14 #[.slice B k CB] W (Pair W (SatP.tot z0) false) := fun W hW =>
          sum_says W B k CB z0.reverse _ (by rw [List.length_reverse]; exact HL0.out) h1 (fun x hx => HZ0.out x (List.mem_reverse.1 hx)) (SatP.tot_reverse z0) ((hsB.below hW (Nat.le_refl _)).more hW.size)
        have hS3 : ∀ W, Below wr.heap.size wr W → Calls Try.prog 14 #[.slice A q CA] W (Pair W (SatP.tot (z0.take q)) false) := fun W hW =>
          sum_says W A q CA (z0.take q) _ (by rw [List.length_take, HL0.out]; omega) (by omega) (small_sub HZ0.out fun x hx => List.mem_of_mem_take hx) rfl (by
            refine ((sees_take hsA q).below hW (Nat.le_refl _)).more hW.size |> fun h => ?_
            rwa [nums, ← List.map_take] at h)
        have hS4 : ∀ W cap, Below wr.heap.size wr W → Calls Try.prog 14 #[.slice (if CA = q then A else A.map (·.add q)) (k - q) cap] W (Pair W (SatP.tot (z0.drop q)) false) := fun W cap hW =>
          sum_says W _ (k - q) cap (z0.drop q) _ (by rw [List.length_drop, HL0.out]) (by omega) (small_sub HZ0.out fun x hx => List.mem_of_mem_drop hx) rfl (by
            have h := ((sees_cut hsA q (by rw [nums_length, HL0.out]; exact hCA)).below hW (Nat.le_refl _)).more hW.size
            rwa [nums, ← List.map_drop] at h)
        generalize SatP.tot z0 = t at *
        generalize SatP.tot (z0.take q) = u at *
        generalize SatP.tot (z0.drop q) = v at *
        obtain ⟨t1, t2⟩ := bt
        obtain ⟨u1, u2⟩ := bu
        obtain ⟨v1, v2⟩ := bv
        have e1 : (u + v == t) = true := by simpa using htd
        have H1 := Lib.hid hS1
        have H2 := Lib.hid hS2
        have H3 := Lib.hid hS3
        clear hS1 hS2 hS3 htd hq
        by_cases hcq : CA = q
        · simp only [if_pos hcq] at hS4
          subst hcq
          rw [show k - CA = 0 by omega] at hS4
          have H4 := Lib.hid hS4
          clear hS4
          go_wp2_with (first
            | (go_at_call 14; (with_reducible refine (H1.out _ (Below.refl _ _)).mono ?_); rintro e w2 ⟨rfl, hd2⟩)
            | (go_at_call 14; (with_reducible refine (H2.out _ hd2).mono ?_); rintro e w3 ⟨rfl, hd3⟩)
            | (go_at_call 14; (with_reducible refine (H3.out _ (below3 hd2 hd3)).mono ?_); rintro e w4 ⟨rfl, hd4⟩)
            | (go_at_call 14; (with_reducible refine (H4.out _ _ (below3 hd2 (below3 hd3 hd4))).mono ?_); rintro e w5 ⟨rfl, hd5⟩))
          go_ret
          exact ⟨rfl, hall.trans ((below3 hd2 (below3 hd3 (below3 hd4 hd5))).mono hall.size)⟩
        · simp only [if_neg hcq] at hS4
          have hcq' : ¬ q = CA := fun h => hcq h.symm
          have H4 := Lib.hid hS4
          clear hS4
          go_wp2_with (first
            | (go_at_call 14; (with_reducible refine (H1.out _ (Below.refl _ _)).mono ?_); rintro e w2 ⟨rfl, hd2⟩)
            | (go_at_call 14; (with_reducible refine (H2.out _ hd2).mono ?_); rintro e w3 ⟨rfl, hd3⟩)
            | (go_at_call 14; (with_reducible refine (H3.out _ (below3 hd2 hd3)).mono ?_); rintro e w4 ⟨rfl, hd4⟩)
            | (go_at_call 14; (with_reducible refine (H4.out _ _ (below3 hd2 (below3 hd3 hd4))).mono ?_); rintro e w5 ⟨rfl, hd5⟩))
          go_ret
          exact ⟨rfl, hall.trans ((below3 hd2 (below3 hd3 (below3 hd4 hd5))).mono hall.size)⟩

end Go.Proofs.Ytdfollfbgnigpaa.Walk
