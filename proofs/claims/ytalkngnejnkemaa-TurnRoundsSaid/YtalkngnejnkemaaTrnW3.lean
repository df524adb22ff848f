/- The walk of TurnRounds. -/
import Derived.Test.YtalkngnejnkemaaTrnE
import Derived.Test.YtalkngnejnkemaaTrnQ
import Derived.OpenShut
import Derived.LoopN
namespace Go.Proofs.Ytalkngnejnkemaa.Walk
open Go.RowKit Go.ChangeShapes Go.Proofs.Ytalkngnejnkemaa.Plain Go.Proofs.Ytalkngnejnkemaa.OrdP Go.Proofs.Ytalkngnejnkemaa.Ord Go.Proofs.Ytalkngnejnkemaa.TrnP Go.Proofs.Ytalkngnejnkemaa.Box Go.Proofs.Ytalkngnejnkemaa.Held Go.Proofs.Ytalkngnejnkemaa.Sees Go.Proofs.Ytalkngnejnkemaa.Open
set_option linter.unusedVariables false

theorem jhead2 {w W : World} {X : Nat} {a b x y : Value} (h : J w W [(X, #[a, b])]) (hX : w.heap.size ≤ X) : J w ((W.setCell ⟨X, 0, none⟩ x).setCell ⟨X, 1, none⟩ y) [(X, #[x, y])] := by
  have := (h.set 0 x hX).set 1 y hX
  simpa using this
theorem info_int (_ : Unit) : (Try.prog.info? 3).map (fun i => (i.zero, i.size, i.bytes)) = some (some (.int .i64 0), 1, 8) := by kernel_rfl

set_option maxRecDepth 100000 in
set_option maxHeartbeats 6400000 in
theorem turnRounds_walk (w : World) (r' per tk : Int) (u0 : (Lit.int .u64 r').wf = true) (u1 : (Lit.int .u8 per).wf = true) (u2 : (Lit.int .u16 tk).wf = true) :
    Calls Try.prog 5 #[.int .u64 r', .int .u8 per, .int .u16 tk] w fun e w' => e = .returned (.bool true) ∧ Below w.heap.size w w' := by
  have br := bounds_u64 u0
  have bp := bounds_u8 u1
  have bt := bounds_u16 u2
  obtain ⟨r, rfl⟩ : ∃ r : Nat, r' = r := ⟨r'.toNat, by omega⟩
  have hr : r < 18446744073709551616 := by omega
  have HA : Hid (∀ W, Calls Try.prog 7 #[] W (Says W (.bool true))) := Lib.hid fun W => Trn.awake_any W
  by_cases hz : r = 0
  · subst hz
    clear u0 u1 u2 br bp bt hr
    go_enter Try.func5, Try.ntmps5
    go_wp2_with (go_at_call 7; refine (HA.out _).mono ?_; rintro e w1 ⟨rfl, h1⟩)
    go_ret
    exact ⟨rfl, h1⟩
  have hz0 : ((r : Int) == 0) = false := by simp; omega
  obtain ⟨n, hn⟩ : ∃ n, per % 9 = n := ⟨_, rfl⟩
  have t1 : per.tmod 9 = n := by rw [Int.tmod_eq_emod_of_nonneg (by omega)]; exact hn
  have t2 : IntKind.u8.wrap n = n := IntWalk.u8_in _ (by omega)
  have t3 : IntKind.i64.wrap n = n := IntWalk.i64_in _ (by omega)
  obtain ⟨p, hp⟩ : ∃ p : Nat, n + 1 = p := ⟨(n + 1).toNat, by omega⟩
  have t4 : IntKind.i64.wrap (n + 1) = p := by rw [hp]; exact IntWalk.i64_in _ (by omega)
  obtain ⟨m, hm⟩ : ∃ m : Nat, tk % 700 = m := ⟨(tk % 700).toNat, by omega⟩
  have s1 : tk.tmod 700 = m := by rw [Int.tmod_eq_emod_of_nonneg (by omega)]; exact hm
  have s2 : IntKind.u16.wrap (m : Int) = m := IntWalk.u16_in _ (by omega)
  have s3 : IntKind.i64.wrap (m : Int) = m := IntWalk.i64_in _ (by omega)
  have HB := Lib.hid (⟨by omega, by omega, by omega⟩ : 1 ≤ p ∧ p ≤ 9 ∧ m ≤ 700)
  have HR := Lib.hid hr
  have HL := Lib.hid (cs_some hr hz)
  have HH : Hid (∀ x W, Calls Try.prog 13 #[.int .u64 r, .int .i64 x] W fun e w' => e = .returned (.bool (hb r x)) ∧ W = w') := Lib.hid fun x W => Has_any r x W hr
  have HN : Hid (∀ W, Calls Try.prog 12 #[] W (Says W (.agg #[.int .i64 (-1), .int .i64 0]))) := Lib.hid (fun W => Trn.None_any W)
  obtain ⟨i0, hi, hq0, hq1, hq2⟩ := info_parts (info_int ())
  have hj := Lib.hid (J.start w)
  clear u0 u1 u2 br bp bt hr hz hn hp hm
  go_enter Try.func5, Try.ntmps5
  go_wp2_with (first
    | (go_at_call 7; refine (HA.out _).mono ?_; rintro e w1 ⟨rfl, h1⟩; have hj1 := Lib.hid (hj.out.next h1); clear h1 hj))
  go_loopw [10, 11] (fun row i wr => ∃ k n : Nat, k ≤ 64 ∧ i = .int .i64 k ∧ n ≤ k ∧ wr.ownsRow w1.heap.size 3 1 row n (nums .i64 (cs r k)) ∧ Below w1.heap.size w1 wr ∧ Hid (n = (cs r k).length)) (fun _ i _ => 64 - (intOf i).toNat)
  case atStart => exact ⟨0, 0, Nat.zero_le _, rfl, Nat.le_refl _, World.ownsRow_nil _ _ _ _, Below.refl _ _, Lib.hid rfl⟩
  case round =>
    clear t1 t2 t3 t4 s1 s2 s3
    obtain ⟨k, n, hk, rfl, hnk, hA, hbel, hnl⟩ := hrel
    have hsz := hbel.size
    by_cases hlt : k < 64
    · have i1 : (k : Int) < 64 := by omega
      have e3 : IntKind.i64.wrap ((k : Int) + 1) = ((k + 1 : Nat) : Int) := by rw [IntWalk.i64_in _ (by omega)]; rfl
      have HK := Lib.hid (cs_succ r k)
      have HA2 := Lib.hid (HH.out (k : Int))
      obtain ⟨h, hh⟩ : ∃ h, hb r (k : Int) = h := ⟨_, rfl⟩
      rw [hh] at HA2 HK
      clear hh
      cases h
      · have HK' : Hid (cs r (k + 1) = cs r k) := Lib.hid HK.out
        clear HK
        go_wp2_with (go_at_call 13; refine (HA2.out _).mono ?_; rintro e w' ⟨rfl, rfl⟩)
        go_roundw
        case rel => exact ⟨k + 1, n, by omega, rfl, by omega, by rw [HK'.out]; exact hA, hbel, Lib.hid (by rw [HK'.out]; exact hnl.out)⟩
        case measure => simp [intOf]; omega
      · have HK' : Hid (cs r (k + 1) = cs r k ++ [(k : Int)]) := Lib.hid HK.out
        clear HK
        go_wp2_with (first
          | (go_at_call 13; refine (HA2.out _).mono ?_; rintro e w' ⟨rfl, rfl⟩)
          | (at_builtin
             refine wpList_append_own_at _ rfl (.tmp 33) (.tmp 35) 41 rfl w1.heap.size 3 i0 (.int .i64 0) 1 8 Try.underlying41 hi hq0 hq1 hq2 rfl (by omega) _ n _ rfl (hA.alloc _) ⟨wr.heap.size, 0, none⟩ 1 1 [.int .i64 k] rfl rfl (new_cell _ _ _) (one_cell _ _) (by unfold maxLen; omega) (by omega) (by simp; omega) ?_
             intro v2 w2 hA2 hg2 _ hat2
             have hbel2 : Below w1.heap.size w1 w2 := (hbel.alloc hsz _).grown hg2 (by simp; omega) (fun g hg => (hA.lt g hg).1)))
        go_roundw
        case rel => exact ⟨k + 1, n + 1, by omega, rfl, by omega, by rw [HK'.out, nums_append]; exact hA2, hbel2, Lib.hid (by rw [HK'.out, List.length_append, hnl.out]; rfl)⟩
        case measure => simp [intOf]; omega
    · obtain rfl : k = 64 := by omega
      obtain ⟨w0, hw0⟩ : ∃ w0, w0 = wr := ⟨_, rfl⟩
      subst hw0
      obtain ⟨A, C, rfl, hC, hsA, hltA⟩ := own_form hA
      have hj2 := Lib.hid (hj1.out.next hbel)
      have HS := Lib.hid hsA
      have hL : 0 < n := by have := HL.out; have := hnl.out; omega
      clear hA hltA hsA hbel hsz hlt
      go_wp2_with (go_at_call 12; refine (HN.out _).mono ?_; rintro e w2 ⟨rfl, h2⟩; have HX := Lib.hid (hj2.out.next h2).below.size; have HSB := Lib.hid (HS.out.below h2 (Nat.le_refl _)); have hw12 := Lib.hid h2.size; have HB2 := Lib.hid h2; have hj3 := Lib.hid ((hj2.out.next h2).push #[.int .i64 (-1), .int .i64 0] 23); clear h2 hj2)
      go_loopw [13] (fun y wx => ∃ i : Nat, y = .int .i64 i ∧ i ≤ m ∧ Hid (J w wx [(w2.heap.size, Trn.arr (tr r p i))] ∧ Below w0.heap.size w0 wx)) (fun y _ => m - (intOf y).toNat)
      case atStart => exact ⟨0, rfl, Nat.zero_le _, Lib.hid ⟨hj3.out, HB2.out.alloc hw12.out _⟩⟩
      case round =>
        clear hj3 HB2 HSB
        obtain ⟨i, rfl, hi, hM⟩ := hrel
        by_cases hlt2 : i < m
        · obtain ⟨x, hx, htr⟩ := tr_at (r := r) (p := p) (i := i) HL.out
          have hst := tr_next (r := r) (p := p) HL.out HB.out.1 i
          have hle := tr_le r p i
          rw [htr] at hst
          rw [← hnl.out] at hx
          obtain ⟨⟨tc, tl⟩, ht⟩ : ∃ t, tr r p i = t := ⟨_, rfl⟩
          rw [ht] at hst hM hle
          obtain ⟨sl, hsl⟩ : ∃ sl : Int, (p : Int) - (i % p : Nat) = sl := ⟨_, rfl⟩
          rw [hsl] at hst htr
          have HTR : Hid (tr r p (i + 1) = ⟨x, sl⟩) := Lib.hid htr
          have HST : Hid (∀ W, Calls Try.prog 8 #[.agg #[.int .i64 tc, .int .i64 tl], .int .u64 r, .bool false, .int .i64 p] W (Says W (.agg #[.int .i64 x, .int .i64 sl]))) := Lib.hid fun W => by
            have := Trn.Step_any ⟨tc, tl⟩ r false p HR.out (by have := HB.out; simp only at hle ⊢; omega) W
            rwa [hst] at this
          obtain ⟨b, o, rfl, hbB, hc⟩ := HS.out.at_ (k := i / p % n) (u := .int .i64 x) (by unfold nums; rw [List.getElem?_map, hx]; rfl)
          have HC := Lib.hid hc
          have HBB := Lib.hid hbB
          have hjl : Hid (J w wr [(w2.heap.size, #[.int .i64 tc, .int .i64 tl])]) := Lib.hid hM.out.1
          have hbl := Lib.hid hM.out.2
          obtain ⟨j, hjj⟩ : ∃ j, i / p % n = j := ⟨_, rfl⟩
          rw [hjj] at HC
          have i1 : (i : Int) < (m : Int) := by omega
          have e3 : IntKind.i64.wrap ((i : Int) + 1) = ((i + 1 : Nat) : Int) := by rw [IntWalk.i64_in _ (by have := HB.out; omega)]; rfl
          have hjn : j < n := by rw [← hjj]; exact Nat.mod_lt _ hL
          have i2 : (j : Int) < (n : Int) := by omega
          have hp0 : ¬ (p : Int) = 0 := by have := HB.out; omega
          have hn0 : ¬ (n : Int) = 0 := by omega
          have hq0' := Nat.div_le_self i p
          obtain ⟨d, hd⟩ : ∃ d, i / p = d := ⟨_, rfl⟩
          have d1 : (i : Int).tdiv (p : Int) = (d : Int) := by rw [← hd]; rfl
          have d2 : IntKind.i64.wrap (d : Int) = (d : Int) := IntWalk.i64_in _ (by have := HB.out; omega)
          have d3 : (d : Int).tmod (n : Int) = (j : Int) := by rw [← hjj, hd]; rfl
          have d4 : IntKind.i64.wrap (j : Int) = (j : Int) := IntWalk.i64_in _ (by omega)
          obtain ⟨a0, a1⟩ := (hjl.out.bx 0 rfl).c2
          obtain ⟨f0, f1⟩ := (hjl.out.bx 0 rfl).f2
          have HHX := Lib.hid hx
          clear hst htr hle ht hsl hc hbB hM hx hjj hd hq0' hL
          go_wp2_with (go_at_call 8; refine (HST.out _).mono ?_; rintro e w4 ⟨rfl, h4⟩; have hj4 := Lib.hid (hjl.out.next h4); have hb4 := Lib.hid (hbl.out.trans (h4.mono hbl.out.size)); clear h4 hjl hbl a0 a1 f0 f1; obtain ⟨a0, a1⟩ := (hj4.out.bx 0 rfl).c2; obtain ⟨f0, f1⟩ := (hj4.out.bx 0 rfl).f2)
          have hj5 := Lib.hid (jhead2 (x := .int .i64 x) (y := .int .i64 sl) hj4.out HX.out)
          have hb5 := Lib.hid ((hb4.out.setCell (p := ⟨w2.heap.size, 0, none⟩) hw12.out (.int .i64 x)).setCell (p := ⟨w2.heap.size, 1, none⟩) hw12.out (.int .i64 sl))
          clear a0 a1 f0 f1 hj4 hb4
          obtain ⟨W5, hW5⟩ : ∃ W5, (w4.setCell ⟨w2.heap.size, 0, none⟩ (.int .i64 x)).setCell ⟨w2.heap.size, 1, none⟩ (.int .i64 sl) = W5 := ⟨_, rfl⟩
          rw [hW5] at hj5 hb5 ⊢
          clear hW5
          obtain ⟨a0, a1⟩ := (hj5.out.bx 0 rfl).c2
          have a2 := (hb5.out.cell (p := ⟨b, o + j, none⟩) HBB.out).trans HC.out
          go_quiet (fail)
          go_wp2
          go_roundw
          case rel => exact ⟨i + 1, rfl, by omega, Lib.hid ⟨by rw [HTR.out]; exact hj5.out.next (below_drewN (Below.refl _ _) _), below_drewN hb5.out _⟩⟩
          case measure => simp [intOf]; omega
        · obtain rfl : i = m := by omega
          go_wp2
          go_ret
          exact ⟨rfl, hM.out.1.below⟩
end Go.Proofs.Ytalkngnejnkemaa.Walk
