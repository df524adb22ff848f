/- The walk of OrderTurned. -/
import Derived.Test.YtmacnecjgdjdiaaOrdE
import Derived.Test.YtmacnecjgdjdiaaOrdQ
import Derived.Test.YtmacnecjgdjdiaaTwoRows
import Derived.OpenShut
import Derived.LoopN
namespace Go.Proofs.Ytmacnecjgdjdiaa.Walk
open Go.RowKit Go.ChangeShapes Go.Proofs.Ytmacnecjgdjdiaa.Plain Go.Proofs.Ytmacnecjgdjdiaa.OrdP Go.Proofs.Ytmacnecjgdjdiaa.Ord Go.Proofs.Ytmacnecjgdjdiaa.Box Go.Proofs.Ytmacnecjgdjdiaa.Held Go.Proofs.Ytmacnecjgdjdiaa.Sees Go.Proofs.Ytmacnecjgdjdiaa.Open
set_option linter.unusedVariables false

theorem info_int : (Try.prog.info? 3).map (fun i => (i.zero, i.size, i.bytes)) = some (some (.int .i64 0), 1, 8) := by kernel_rfl
theorem rev_take (z : List Int) (n k : Nat) (h : z.length = n) (hk : k < n) : z.reverse.take (k + 1) = z.reverse.take k ++ [z[n - 1 - k]?.getD 0] := by
  rw [take_snoc z.reverse k (by simpa [h] using hk) 0, List.getElem?_reverse (by omega), h]

set_option maxRecDepth 100000 in
set_option maxHeartbeats 6400000 in
theorem orderTurned_walk (w : World) (a0 : Option Addr) (len0 cap0 : Nat) (z0 : List Int) (d' o' : Int)
    (hl0 : z0.length = len0) (hc0 : len0 ≤ cap0) (hx0 : cap0 ≤ maxLen) (hs0 : Sees w w.heap.size a0 (nums .i64 z0)) (hw0 : ∀ n ∈ z0, (Lit.int .i64 n).wf = true)
    (wd : (Lit.int .u64 d').wf = true) (wo' : (Lit.int .u64 o').wf = true) :
    Calls Try.prog 6 #[.slice a0 len0 cap0, .int .u64 d', .int .u64 o'] w fun e w' => e = .returned (.bool true) ∧ Below w.heap.size w w' := by
  have bd := bounds_u64 wd
  have bo := bounds_u64 wo'
  obtain ⟨d, rfl⟩ : ∃ d : Nat, d' = d := ⟨d'.toNat, by omega⟩
  obtain ⟨o, rfl⟩ : ∃ o : Nat, o' = o := ⟨o'.toNat, by omega⟩
  have hd : d < 18446744073709551616 := by omega
  have ho : o < 18446744073709551616 := by omega
  clear hw0 wd wo' bd bo
  have HA : Hid (∀ W, Hid (Bw w W) → Calls Try.prog 7 #[] W (On w (.bool true))) := Lib.hid fun W hW => on_says hW (awake_any W)
  have K0 : Hid (Bw w w) := Lib.hid (Bw.refl w)
  by_cases hbig : 60 < len0
  · have g1 : (60 : Int) < (len0 : Int) := by omega
    go_enter Try.func6, Try.ntmps6
    go_wp2_with (go_at_call 7; refine (HA.out _ K0).mono ?_; rintro e w1 ⟨rfl, K1⟩)
    go_ret
    exact ⟨rfl, K1.out⟩
  · have g1 : ¬ (60 : Int) < (len0 : Int) := by omega
    have HL0 := Lib.hid hl0
    have HS0 := Lib.hid hs0
    have h60 : len0 ≤ 60 := by omega
    obtain ⟨i0, hi, hq0, hq1, hq2⟩ := info_parts info_int
    clear hl0 hs0 hbig
    go_enter Try.func6, Try.ntmps6
    go_wp2_with (go_at_call 7; refine (HA.out _ K0).mono ?_; rintro e w1 ⟨rfl, K1⟩)
    go_loopw [8, 9] (fun m i wr => ∃ k : Nat, k ≤ len0 ∧ i = .int .i64 k ∧ wr.ownsRow w1.heap.size 3 1 m k (nums .i64 (z0.reverse.take k)) ∧ Below w1.heap.size w1 wr) (fun _ i _ => len0 - (intOf i).toNat)
    case atStart => exact ⟨0, Nat.zero_le _, rfl, World.ownsRow_nil _ _ _ _, Below.refl _ _⟩
    case round =>
      obtain ⟨k, hk, rfl, hA, hbel⟩ := hrel
      have hsz := hbel.size
      by_cases hlt : k < len0
      · obtain ⟨b, p, rfl, hbB, hc⟩ := HS0.out.at_ (nums_at .i64 z0 (len0 - 1 - k) (by rw [HL0.out]; omega))
        have hc' := ((K1.out.next hbel).cell (p := ⟨b, p + (len0 - 1 - k), none⟩) hbB).trans hc
        have HR := Lib.hid (rev_take z0 len0 k HL0.out hlt)
        clear hc
        generalize z0[len0 - 1 - k]?.getD 0 = y at *
        obtain ⟨m, hm⟩ : ∃ m, len0 - 1 - k = m := ⟨_, rfl⟩
        rw [hm] at hc'
        have e1 : IntKind.i64.wrap ((len0 : Int) - 1) = (len0 : Int) - 1 := IntWalk.i64_in _ (by omega)
        have e2 : IntKind.i64.wrap ((len0 : Int) - 1 - (k : Int)) = (m : Int) := by rw [IntWalk.i64_in _ (by omega)]; omega
        have e3 : IntKind.i64.wrap ((k : Int) + 1) = ((k + 1 : Nat) : Int) := by rw [IntWalk.i64_in _ (by omega)]; rfl
        have i1 : (m : Int) < (len0 : Int) := by omega
        have i2 : (k : Int) < (len0 : Int) := by omega
        clear hm
        go_wp2_with (first
          | (at_builtin
             refine wpList_append_own_at _ rfl (.tmp 24) (.tmp 33) 22 rfl w1.heap.size 3 i0 (.int .i64 0) 1 8 Try.underlying22 hi hq0 hq1 hq2 rfl (by omega) _ k _ rfl (hA.alloc _) ⟨wr.heap.size, 0, none⟩ 1 1 [.int .i64 y] rfl rfl (new_cell _ _ _) (one_cell _ _) (by unfold maxLen; omega) (by omega) (by simp; omega) ?_
             intro v2 w2 hA2 hg2 _ hat2
             have hbel2 : Below w1.heap.size w1 w2 := (hbel.alloc hsz _).grown hg2 (by simp; omega) (fun g hg => (hA.lt g hg).1)))
        go_roundw
        case rel => exact ⟨k + 1, by omega, rfl, by rw [HR.out, nums_append]; exact hA2, hbel2⟩
        case measure => simp [intOf]; omega
      · obtain rfl : k = len0 := by omega
        have hrl : z0.reverse.take k = z0.reverse := List.take_of_length_le (by rw [List.length_reverse, HL0.out]; exact Nat.le_refl _)
        rw [hrl] at hA
        obtain ⟨A, C, rfl, hC, hsA, hltA⟩ := own_form hA
        have KW : Hid (Bw w wr) := Lib.hid (K1.out.next hbel)
        have hs1 := sees_bw HS0.out KW.out
        clear hA hrl HA K0 K1 hltA
        have KR : Hid (Bw wr wr) := Lib.hid (Bw.refl wr)
        have hlr : z0.reverse.length = k := by rw [List.length_reverse]; exact HL0.out
        obtain ⟨a, ha⟩ : ∃ a, nx d o z0 = a := ⟨_, rfl⟩
        obtain ⟨n, hn⟩ : ∃ n, lf d o z0 = n := ⟨_, rfl⟩
        have H1 : Hid (∀ W, Hid (Bw wr W) → Calls Try.prog 11 #[.slice a0 k cap0, .int .u64 d, .int .u64 o] W (On wr (.int .i64 a))) := Lib.hid fun W hW => next_on HL0.out (by omega) hs1 d o hd ho a ha W hW
        have H2 : Hid (∀ W, Hid (Bw wr W) → Calls Try.prog 12 #[.slice a0 k cap0, .int .u64 d, .int .u64 o] W (On wr (.int .i64 n))) := Lib.hid fun W hW => left_on HL0.out (by omega) hs1 d o hd ho n hn W hW
        have H3 : Hid (∀ W, Hid (Bw wr W) → Calls Try.prog 12 #[.slice A k C, .int .u64 d, .int .u64 o] W (On wr (.int .i64 n))) := Lib.hid fun W hW => left_on hlr (by omega) hsA d o hd ho n (by rw [lf_rev]; exact hn) W hW
        have H4 : Hid (∀ W, Hid (Bw wr W) → Calls Try.prog 12 #[.slice a0 k cap0, .int .u64 o, .int .u64 d] W (On wr (.int .i64 n))) := Lib.hid fun W hW => left_on HL0.out (by omega) hs1 o d ho hd n (by rw [lf_swap]; exact hn) W hW
        have H5 : Hid (∀ W, Hid (Bw wr W) → Calls Try.prog 11 #[.slice a0 k cap0, .int .u64 o, .int .u64 d] W (On wr (.int .i64 a))) := Lib.hid fun W hW => next_on HL0.out (by omega) hs1 o d ho hd a (by rw [nx_swap]; exact ha) W hW
        rcases nx_cases d o z0 with ⟨h1, h2⟩ | ⟨h1, h2⟩
        · obtain rfl : -1 = a := h1.symm.trans ha
          obtain rfl : 0 = n := by rw [← hn]; unfold lf; rw [h2]; rfl
          have H6 : Hid (∀ W, Hid (Bw wr W) → Calls Try.prog 11 #[.slice A k C, .int .u64 d, .int .u64 o] W (On wr (.int .i64 (-1)))) := Lib.hid fun W hW => next_on hlr (by omega) hsA d o hd ho (-1) (by unfold nx; rw [fr_rev, h2]; rfl) W hW
          clear hsA hs1 hbel hsz h1 h2 ha hn
          go_wp2_with (first
            | (go_at_call 11; ((with_reducible refine (H1.out _ KR).mono ?_); clear H1; rintro e x1 ⟨rfl, L1⟩))
            | (go_at_call 12; ((with_reducible refine (H2.out _ L1).mono ?_); clear H2; rintro e x2 ⟨rfl, L2⟩))
            | (go_at_call 12; ((with_reducible refine (H3.out _ L2).mono ?_); clear H3; rintro e x3 ⟨rfl, L3⟩))
            | (go_at_call 12; ((with_reducible refine (H4.out _ L3).mono ?_); clear H4; rintro e x4 ⟨rfl, L4⟩))
            | (go_at_call 11; ((with_reducible refine (H5.out _ L4).mono ?_); clear H5; rintro e x5 ⟨rfl, L5⟩))
            | (go_at_call 11; ((with_reducible refine (H6.out _ L5).mono ?_); rintro e x6 ⟨rfl, L6⟩)))
          go_ret
          exact ⟨rfl, KW.out.next L6.out⟩
        · rw [ha] at h1 h2
          have hmay := fr_may h1
          have hin := may_in hmay
          have hlt1 : lf (wi d a) o z0 < n := by rw [← hn]; exact lf_wi d o z0 a h1
          have hn0 : 0 < n := by
            rw [← hn]; exact Nat.lt_of_le_of_lt (Nat.zero_le _) (lf_wi d o z0 a h1)
          obtain ⟨q, hq⟩ : ∃ q, lf (wi d a) o z0 = q := ⟨_, rfl⟩
          rw [hq] at hlt1
          have H6 : Hid (∀ W, Calls Try.prog 14 #[.int .u64 d, .int .i64 a] W fun e w' => e = .returned (.int .u64 (wi d a : Nat)) ∧ W = w') := Lib.hid fun W => With_any d a W hd
          have H7 : Hid (∀ W, Hid (Bw wr W) → Calls Try.prog 12 #[.slice A k C, .int .u64 (wi d a : Nat), .int .u64 o] W (On wr (.int .i64 q))) := Lib.hid fun W hW => left_on hlr (by omega) hsA (wi d a) o (wi_lt a hd) ho q (by rw [lf_rev]; exact hq) W hW
          have H8 : Hid (∀ W, Hid (Bw wr W) → Calls Try.prog 12 #[.slice (some ⟨W.heap.size, 0, none⟩) 1 1, .int .u64 d, .int .u64 o] (W.alloc (.cells #[.int .i64 a] 3)) (On wr (.int .i64 1))) := Lib.hid fun W hW => by
            refine on_says (Lib.hid (hW.out.next below_box)) ?_
            have := Left_any d o [a] (some ⟨W.heap.size, 0, none⟩) 1 1 (W.alloc (.cells #[.int .i64 a] 3)) hd ho rfl (by unfold maxLen; omega) (sees_bx (Bx.new W _ _) (by simp))
            rw [lf_one d o a hmay] at this
            exact this
          have n1 : ¬ a = -1 := by omega
          generalize wi d a = u at *
          have n2 : (0 : Int) < (n : Int) := by omega
          have n3 : (q : Int) < (n : Int) := by omega
          clear hsA hs1 hbel hsz h1 h2 ha hn hmay hin hq
          go_wp2_with (first
            | (go_at_call 11; ((with_reducible refine (H1.out _ KR).mono ?_); clear H1; rintro e x1 ⟨rfl, L1⟩))
            | (go_at_call 12; ((with_reducible refine (H2.out _ L1).mono ?_); clear H2; rintro e x2 ⟨rfl, L2⟩))
            | (go_at_call 12; ((with_reducible refine (H3.out _ L2).mono ?_); clear H3; rintro e x3 ⟨rfl, L3⟩))
            | (go_at_call 12; ((with_reducible refine (H4.out _ L3).mono ?_); clear H4; rintro e x4 ⟨rfl, L4⟩))
            | (go_at_call 11; ((with_reducible refine (H5.out _ L4).mono ?_); clear H5; rintro e x5 ⟨rfl, L5⟩))
            | (go_at_call 14; ((with_reducible refine (H6.out _).mono ?_); rintro e w' ⟨rfl, rfl⟩))
            | (go_at_call 12; ((with_reducible refine (H7.out _ L5).mono ?_); clear H7; rintro e x6 ⟨rfl, L6⟩))
            | (go_at_call 12; ((with_reducible refine (H8.out _ L6).mono ?_); rintro e x7 ⟨rfl, L7⟩)))
          go_ret
          exact ⟨rfl, KW.out.next L7.out⟩
end Go.Proofs.Ytmacnecjgdjdiaa.Walk
