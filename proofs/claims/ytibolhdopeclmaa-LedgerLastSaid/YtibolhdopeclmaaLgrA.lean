/- Contracts of ledger's small functions. -/
import Derived.Test.YtibolhdopeclmaaLgrP
import Derived.Test.YtibolhdopeclmaaHeld
import Derived.Test.YtibolhdopeclmaaSeesN
import Derived.Lib.SliceRun
namespace Go.Proofs.Ytibolhdopeclmaa.Lgr
open Go.RowKit Go.Proofs.Ytibolhdopeclmaa.LgrP Go.Proofs.Ytibolhdopeclmaa.Open Go.Proofs.Ytibolhdopeclmaa.Sees Go.Proofs.Ytibolhdopeclmaa.Box Go.Proofs.Ytibolhdopeclmaa.Held
set_option linter.unusedVariables false

theorem isPower_any (n : Int) (w : World) : Calls Try.prog 14 #[.int .i64 n] w (Says w (.bool (pwr n))) := by
  unfold pwr
  by_cases h0 : 0 ≤ n
  · by_cases h1 : n ≤ 1048576
    all_goals
      go_enter Try.func14, Try.ntmps14
      go_wp2
      go_ret
      exact ⟨ret_bool (by simp; omega), Below.refl _ _⟩
  · go_enter Try.func14, Try.ntmps14
    go_wp2
    go_ret
    exact ⟨ret_bool (by simp; omega), Below.refl _ _⟩

theorem isPermit_any (p : Pm) (w : World) : Calls Try.prog 11 #[p.val] w (Says w (.bool (okP p))) := by
  obtain ⟨c, q⟩ := p
  have HP : Hid (∀ W, Calls Try.prog 14 #[.int .i64 q] W (Says W (.bool (pwr q)))) := Lib.hid fun W => isPower_any q W
  have hj := Lib.hid (J.one w #[.int .i64 c, .int .i64 q] 37)
  obtain ⟨a0, a1⟩ := (hj.out.bx 0 rfl).c2
  unfold okP Pm.val
  simp only
  generalize pwr q = y at *
  by_cases h0 : 0 ≤ c
  · by_cases h1 : c < 64
    · go_enter Try.func11, Try.ntmps11
      go_wp2_with (go_at_call 14; (with_reducible refine (HP.out _).mono ?_); clear HP; rintro e w1 ⟨rfl, hb⟩)
      go_ret
      exact ⟨ret_bool (by simp [h0, h1]), (hj.out.next hb).below⟩
    · go_enter Try.func11, Try.ntmps11
      go_wp2
      go_ret
      exact ⟨ret_bool (by simp; intros; omega), hj.out.below⟩
  · go_enter Try.func11, Try.ntmps11
    go_wp2
    go_ret
    exact ⟨ret_bool (by simp; intros; omega), hj.out.below⟩

theorem place1_any (p : Pm) (car : Int) (X : Nat) (w : World) (hX : Bx w X #[.int .i64 car]) : Calls Try.prog 19 #[p.val, .pointer (some ⟨X, 0, none⟩)] w (Says w (.bool (decide (p.c = car)))) := by
  obtain ⟨c, q⟩ := p
  have hj := Lib.hid (J.one w #[.int .i64 c, .int .i64 q] 37)
  obtain ⟨a0, a1⟩ := (hj.out.bx 0 rfl).c2
  have a2 := (hX.alloc (.cells #[.int .i64 c, .int .i64 q] 37)).c1
  clear hX
  unfold Pm.val
  simp only
  go_enter Try.func19, Try.ntmps19
  go_wp2
  go_ret
  exact ⟨rfl, hj.out.below⟩

set_option maxHeartbeats 1600000 in
theorem index_any (l : List Pm) (A : Option Addr) (n c : Nat) (X : Nat) (car : Int) (w : World) (hl : l.length = n) (hn : n ≤ maxLen) (hs : Sees w w.heap.size A (pms l)) (hX : Bx w X #[.int .i64 car]) :
    Calls Try.prog 18 #[.slice A n c, .func (.func 19) #[] #[.pointer (some ⟨X, 0, none⟩)]] w (Says w (.int .i64 (idx l car))) := by
  unfold maxLen at hn
  have HL := Lib.hid hl
  have HS := Lib.hid hs
  have HX := Lib.hid hX
  clear hl hs hX
  go_enter Try.func18, Try.ntmps18
  go_wp2
  go_loopw [5, 8] (fun _ a wr => ∃ k : Nat, k ≤ n ∧ a = .int .i64 k ∧ Hid (Below w.heap.size w wr) ∧ Hid (∀ (j : Nat) (q : Pm), j < k → l[j]? = some q → q.c ≠ car)) (fun _ a _ => n - (intOf a).toNat)
  case atStart => exact ⟨0, Nat.zero_le _, rfl, Lib.hid (Below.refl _ _), Lib.hid fun j q hj => absurd hj (Nat.not_lt_zero _)⟩
  case round =>
    obtain ⟨k, hk, rfl, hB, hno⟩ := hrel
    by_cases hlt : k < n
    · obtain ⟨q, hq⟩ : ∃ q, l[k]? = some q := ⟨_, List.getElem?_eq_getElem (by rw [HL.out]; exact hlt)⟩
      obtain ⟨b, o, rfl, hb, c0, c1⟩ := pm_cells (HS.out.below hB.out (Nat.le_refl _)) k q hq
      have HC : Hid (Calls Try.prog 19 #[.agg #[.int .i64 q.c, .int .i64 q.p], .pointer (some ⟨X, 0, none⟩)] wr (Says wr (.bool (decide (q.c = car))))) := Lib.hid (place1_any q car X wr (HX.out.below hB.out HX.out.lt))
      have HQ := Lib.hid hq
      clear hq
      have i1 : (k : Int) < (n : Int) := by omega
      have e3 : IntKind.i64.wrap ((k : Int) + 1) = ((k + 1 : Nat) : Int) := by rw [IntWalk.i64_in _ (by omega)]; rfl
      by_cases he : q.c = car
      · have HE := Lib.hid he
        have hd : decide (q.c = car) = true := decide_eq_true he
        rw [hd] at HC
        clear he hd
        generalize hqc : q.c = qc at c0 HC
        generalize hqp : q.p = qp at c1 HC
        have HQC := Lib.hid hqc
        clear hqc hqp
        go_wp2_with (go_at_call 19; (with_reducible refine HC.out.mono ?_); clear HC; rintro e w1 ⟨rfl, h1⟩)
        go_ret
        exact ⟨ret_int (idx_hit HQ.out HE.out hno.out).symm, below_more hB.out h1 (Nat.le_refl _)⟩
      · have HE := Lib.hid he
        have hd : decide (q.c = car) = false := decide_eq_false he
        rw [hd] at HC
        clear he hd
        generalize hqc : q.c = qc at c0 HC
        generalize hqp : q.p = qp at c1 HC
        have HQC := Lib.hid hqc
        clear hqc hqp
        go_wp2_with (go_at_call 19; (with_reducible refine HC.out.mono ?_); clear HC; rintro e w1 ⟨rfl, h1⟩)
        go_roundw
        case rel => exact ⟨k + 1, by omega, rfl, Lib.hid (below_more hB.out h1 (Nat.le_refl _)), Lib.hid fun j r hj hr => by
          by_cases e : j = k
          · subst e
            have := HQ.out.symm.trans hr
            injection this with this
            subst this
            exact HE.out
          · exact hno.out j r (by omega) hr⟩
        case measure => simp [intOf]; omega
    · obtain rfl : k = n := by omega
      go_wp2
      go_ret
      exact ⟨ret_int (idx_miss fun j q hj => hno.out j q (by have := (List.getElem?_eq_some_iff.1 hj).1; rw [HL.out] at this; exact this) hj).symm, hB.out⟩

theorem place_any (l : List Pm) (A : Option Addr) (n c : Nat) (car : Int) (w : World) (hl : l.length = n) (hn : n ≤ maxLen) (hs : Sees w w.heap.size A (pms l)) :
    Calls Try.prog 12 #[.slice A n c, .int .i64 car] w (Says w (.int .i64 (idx l car))) := by
  have hmf : ∀ (fn : Fn) (first cap : Array Value) (w : World), (Instr.makeFunc fn first cap).run Try.prog w = .ok (.func fn first cap) w := fun _ _ _ _ => rfl
  have HI := Lib.hid (index_any l A n c w.heap.size car (w.alloc (.cells #[.int .i64 car] 3)) hl hn ((hs.below below_box (Nat.le_refl _)).more below_box.size) (Bx.new w _ _))
  clear hl hn hs
  generalize idx l car = r at *
  go_enter Try.func12, Try.ntmps12
  go_wp2_with (go_at_call 18; (with_reducible refine HI.out.mono ?_); clear HI; rintro e w1 ⟨rfl, h1⟩)
  go_ret
  exact ⟨rfl, below_more below_box h1 (by simp)⟩

theorem infoPermit : (Try.prog.info? 37).map (fun i => (i.zero, i.size, i.bytes)) = some (some (.agg #[.int .i64 0, .int .i64 0]), 2, 16) := by kernel_rfl

set_option maxHeartbeats 1600000 in
/-- slices.Clone: a row of the call's own that holds the same -/
theorem clone_any (l : List Pm) (A : Option Addr) (n c : Nat) (w : World) (hl : l.length = n) (hn : n ≤ 65536) (hs : Sees w w.heap.size A (pms l)) :
    Calls Try.prog 10 #[.slice A n c] w fun e w' => ∃ A' c', e = .returned (.slice A' n c') ∧ n ≤ c' ∧ w'.ownsRow w.heap.size 37 2 (.slice A' n c') n (pms l) ∧ Below w.heap.size w w' := by
  obtain ⟨i0, hi, hz0, hz1, hz2⟩ := info_parts infoPermit
  have q22 : ∀ (w : World) (a : Option Addr) (n c n' c' : Nat), (binOp .eql 24 (.slice a n c) (.slice none n' c')).run Try.prog w = .ok (.bool a.isNone) w := fun w a n c n' c' => Lib.run_eql_slice_nil w _ _ a n c n' c' Try.underlying24
  rcases A with _ | ad
  · have hp : pms l = [] := by
      rcases hs with h | ⟨b, o, h, _⟩
      · exact h
      · cases h
    obtain rfl : n = 0 := by have := pms_len l; rw [hp, hl] at this; simp at this; omega
    go_enter Try.func10, Try.ntmps10
    go_wp2
    go_ret
    exact ⟨none, 0, rfl, Nat.le_refl _, by rw [hp]; exact World.ownsRow_nil _ _ _ _, Below.refl _ _⟩
  · have HS := Lib.hid hs
    have HL := Lib.hid hl
    clear hs hl
    go_enter Try.func10, Try.ntmps10
    go_wp2_with (at_builtin; refine wpList_append_seesN _ rfl _ _ 24 rfl w.heap.size 37 i0 (.agg #[.int .i64 0, .int .i64 0]) 2 16 Try.underlying24 hi hz0 hz1 hz2 rfl (by decide) _ _ _ rfl (World.ownsRow_made w #[] 0 (Nat.le_refl _) (Nat.zero_le _) (by simp)) w.heap.size (some ad) n c (pms l) rfl (by rw [pms_len, HL.out]) (HS.out.below below_box (Nat.le_refl _)) (pms_one l) (by unfold maxLen; omega) (by omega) (by simp) ?_; intro v' w1 hown hg)
    obtain ⟨A', c', rfl, hc', _⟩ : ∃ A' c', v' = .slice A' n c' ∧ n ≤ c' ∧ True := by
      rcases hown.2 with ⟨rfl, h0⟩ | ⟨g, cap, cur, rfl, _, _, hcap, _⟩
      · exact ⟨none, 0, by rw [show n = 0 by omega], by omega, trivial⟩
      · exact ⟨some ⟨g, 0, none⟩, cap, by simp, by omega, trivial⟩
    go_wp2
    go_ret
    exact ⟨A', c', rfl, hc', by simpa using hown, below_box.trans (hg.below (B := w.heap.size) (by simp) (by intro g hg'; simp [Value.ownBlock, go_sem] at hg'; omega))⟩

theorem free_any (x : Lg) (hm : 0 ≤ x.m ∧ x.m ≤ 1048576) (hk : 0 ≤ x.k ∧ x.k ≤ 1048576) (w : World) : Calls Try.prog 13 #[x.val] w (Says w (.int .i64 (fr x))) := by
  obtain ⟨b, m, k, A, cap, l⟩ := x
  simp only at hm hk
  have e1 : IntKind.i64.wrap (m - k) = m - k := IntWalk.i64_in _ (by omega)
  have m1 : ∀ W, (Builtin.max_ #[3, 3] 3 #[.int .i64 0, .int .i64 (m - k)]).run Try.prog W = .ok (.int .i64 (max 0 (m - k))) W := fun W => by
    rw [run_max_int2]; congr 2; split <;> omega
  have hj := Lib.hid (J.one w #[.int .i64 b, .int .i64 m, .int .i64 k, .slice A l.length cap] 26)
  obtain ⟨a0, a1, a2, a3⟩ := (hj.out.bx 0 rfl).c4
  unfold fr Lg.val
  simp only
  by_cases h0 : l = []
  · subst h0
    go_enter Try.func13, Try.ntmps13
    go_wp2
    go_ret
    exact ⟨rfl, hj.out.below⟩
  · have hne : ¬ l.length = 0 := fun h => h0 (List.eq_nil_of_length_eq_zero h)
    rw [if_neg h0]
    clear h0
    generalize l.length = n at *
    have hn0 : ¬ (n : Int) = 0 := by omega
    generalize max 0 (m - k) = y at *
    go_enter Try.func13, Try.ntmps13
    go_wp2
    go_ret
    exact ⟨rfl, hj.out.below⟩

end Go.Proofs.Ytibolhdopeclmaa.Lgr
