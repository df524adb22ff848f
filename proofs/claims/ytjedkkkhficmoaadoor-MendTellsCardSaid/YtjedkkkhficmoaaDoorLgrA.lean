/- Contracts of ledger's small functions: Clone, free. -/
import Derived.Test.YtjedkkkhficmoaaDoorLgrA0
namespace Go.Proofs.YtjedkkkhficmoaaDoor.Lgr
open Go.RowKit Go.Proofs.YtjedkkkhficmoaaDoor.LgrP Go.Proofs.YtjedkkkhficmoaaDoor.Open Go.Proofs.YtjedkkkhficmoaaDoor.Sees Go.Proofs.YtjedkkkhficmoaaDoor.Box Go.Proofs.YtjedkkkhficmoaaDoor.Held
set_option linter.unusedVariables false

set_option maxHeartbeats 1600000 in
/-- slices.Clone: a row of the call's own that holds the same -/
theorem clone_any (l : List Pm) (A : Option Addr) (n c : Nat) (w : World) (hl : l.length = n) (hn : n ≤ 65536) (hs : Sees w w.heap.size A (pms l)) :
    Calls Tryd.prog 35 #[.slice A n c] w fun e w' => ∃ A' c', e = .returned (.slice A' n c') ∧ n ≤ c' ∧ w'.ownsRow w.heap.size 54 2 (.slice A' n c') n (pms l) ∧ Below w.heap.size w w' := by
  obtain ⟨i0, hi, hz0, hz1, hz2⟩ := info_parts infoPermit
  have q22 : ∀ (w : World) (a : Option Addr) (n c n' c' : Nat), (binOp .eql 30 (.slice a n c) (.slice none n' c')).run Tryd.prog w = .ok (.bool a.isNone) w := fun w a n c n' c' => Lib.run_eql_slice_nil w _ _ a n c n' c' Tryd.underlying30
  rcases A with _ | ad
  · have hp : pms l = [] := by
      rcases hs with h | ⟨b, o, h, _⟩
      · exact h
      · cases h
    obtain rfl : n = 0 := by have := pms_len l; rw [hp, hl] at this; simp at this; omega
    go_enter Tryd.func35, Tryd.ntmps35
    go_wp2
    go_ret
    exact ⟨none, 0, rfl, Nat.le_refl _, by rw [hp]; exact World.ownsRow_nil _ _ _ _, Below.refl _ _⟩
  · have HS := Lib.hid hs
    have HL := Lib.hid hl
    clear hs hl
    go_enter Tryd.func35, Tryd.ntmps35
    go_wp2_with (at_builtin; refine wpList_append_seesN _ rfl _ _ 30 rfl w.heap.size 54 i0 (.agg #[.int .i64 0, .int .i64 0]) 2 16 Tryd.underlying30 hi hz0 hz1 hz2 rfl (by decide) _ _ _ rfl (World.ownsRow_made w #[] 0 (Nat.le_refl _) (Nat.zero_le _) (by simp)) w.heap.size (some ad) n c (pms l) rfl (by rw [pms_len, HL.out]) (HS.out.below below_box (Nat.le_refl _)) (pms_one l) (by unfold maxLen; omega) (by omega) (by simp) ?_; intro v' w1 hown hg)
    obtain ⟨A', c', rfl, hc', _⟩ : ∃ A' c', v' = .slice A' n c' ∧ n ≤ c' ∧ True := by
      rcases hown.2 with ⟨rfl, h0⟩ | ⟨g, cap, cur, rfl, _, _, hcap, _⟩
      · exact ⟨none, 0, by rw [show n = 0 by omega], by omega, trivial⟩
      · exact ⟨some ⟨g, 0, none⟩, cap, by simp, by omega, trivial⟩
    go_wp2
    go_ret
    exact ⟨A', c', rfl, hc', by simpa using hown, below_box.trans (hg.below (B := w.heap.size) (by simp) (by intro g hg'; simp [Value.ownBlock, go_sem] at hg'; omega))⟩

theorem free_any (x : Lg) (hm : 0 ≤ x.m ∧ x.m ≤ 1048576) (hk : 0 ≤ x.k ∧ x.k ≤ 1048576) (w : World) : Calls Tryd.prog 36 #[x.val] w (Says w (.int .i64 (fr x))) := by
  obtain ⟨b, m, k, A, cap, l⟩ := x
  simp only at hm hk
  have e1 : IntKind.i64.wrap (m - k) = m - k := IntWalk.i64_in _ (by omega)
  have m1 : ∀ W, (Builtin.max_ #[3, 3] 3 #[.int .i64 0, .int .i64 (m - k)]).run Tryd.prog W = .ok (.int .i64 (max 0 (m - k))) W := fun W => by
    rw [run_max_int2]; congr 2; split <;> omega
  have hj := Lib.hid (J.one w #[.int .i64 b, .int .i64 m, .int .i64 k, .slice A l.length cap] 32)
  obtain ⟨a0, a1, a2, a3⟩ := (hj.out.bx 0 rfl).c4
  unfold fr Lg.val
  simp only
  by_cases h0 : l = []
  · subst h0
    go_enter Tryd.func36, Tryd.ntmps36
    go_wp2
    go_ret
    exact ⟨rfl, hj.out.below⟩
  · have hne : ¬ l.length = 0 := fun h => h0 (List.eq_nil_of_length_eq_zero h)
    rw [if_neg h0]
    clear h0
    generalize l.length = n at *
    have hn0 : ¬ (n : Int) = 0 := by omega
    generalize max 0 (m - k) = y at *
    go_enter Tryd.func36, Tryd.ntmps36
    go_wp2
    go_ret
    exact ⟨rfl, hj.out.below⟩

end Go.Proofs.YtjedkkkhficmoaaDoor.Lgr
