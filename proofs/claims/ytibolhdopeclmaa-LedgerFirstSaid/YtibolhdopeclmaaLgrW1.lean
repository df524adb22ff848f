/- The walk of LedgerFirst. -/
import Derived.Test.YtibolhdopeclmaaLgrH
import Derived.OpenShut
namespace Go.Proofs.Ytibolhdopeclmaa.Walk
open Go.RowKit Go.ChangeShapes Go.Proofs.Ytibolhdopeclmaa.LgrP Go.Proofs.Ytibolhdopeclmaa.Lgr Go.Proofs.Ytibolhdopeclmaa.Box Go.Proofs.Ytibolhdopeclmaa.Held Go.Proofs.Ytibolhdopeclmaa.Sees Go.Proofs.Ytibolhdopeclmaa.Open
set_option linter.unusedVariables false

set_option maxRecDepth 100000 in
set_option maxHeartbeats 3200000 in
theorem ledgerFirst_walk (w : World) (b m k p o : Int) (w0 : (Lit.int .u16 b).wf = true) (w1 : (Lit.int .u16 m).wf = true) (w2 : (Lit.int .u16 k).wf = true) (w3 : (Lit.int .u16 p).wf = true) (w4 : (Lit.int .u16 o).wf = true) :
    Calls Try.prog 3 #[.int .u16 b, .int .u16 m, .int .u16 k, .int .u16 p, .int .u16 o] w fun e w' => e = .returned (.bool true) ∧ Below w.heap.size w w' := by
  have hb := bounds_u16 w0
  have hm := bounds_u16 w1
  have hk := bounds_u16 w2
  have hp := bounds_u16 w3
  have ho := bounds_u16 w4
  clear w0 w1 w2 w3 w4
  have t0 : IntKind.i64.wrap b = b := IntWalk.i64_in _ (by omega)
  have t1 : IntKind.i64.wrap m = m := IntWalk.i64_in _ (by omega)
  have t2 : IntKind.i64.wrap k = k := IntWalk.i64_in _ (by omega)
  have t3 : IntKind.i64.wrap p = p := IntWalk.i64_in _ (by omega)
  have t4 : IntKind.i64.wrap o = o := IntWalk.i64_in _ (by omega)
  have t5 : IntKind.i64.wrap (m - k) = m - k := IntWalk.i64_in _ (by omega)
  have m1 : ∀ W, (Builtin.max_ #[3, 3] 3 #[.int .i64 (m - k), .int .i64 0]).run Try.prog W = .ok (.int .i64 (max 0 (m - k))) W := fun W => by
    rw [run_max_int2]; congr 2; split <;> omega
  obtain ⟨P1, hP1⟩ : ∃ P1, p + o = P1 := ⟨_, rfl⟩
  have t6 : IntKind.i64.wrap (p + o) = P1 := by rw [hP1]; exact IntWalk.i64_in _ (by omega)
  obtain ⟨P2, hP2⟩ : ∃ P2, P1 + max 0 (m - k) = P2 := ⟨_, rfl⟩
  have t7 : IntKind.i64.wrap (P1 + max 0 (m - k)) = P2 := by rw [hP2]; exact IntWalk.i64_in _ (by omega)
  have HA : Hid (∀ W, Calls Try.prog 5 #[] W (Says W (.bool true))) := Lib.hid fun W => awake_any W
  by_cases hpb : p ≤ b
  · have G1 : Hid (∀ W, Calls Try.prog 6 #[.agg #[.int .i64 b, .int .i64 m, .int .i64 k, .slice none 0 0], .int .i64 3, .int .i64 p] W fun e w' => ∃ (A' : Option Addr) (c' : Nat), e = .returned (.tuple #[.agg #[.int .i64 b, .int .i64 m, .int .i64 k, .slice A' 1 c'], .int .i64 0]) ∧ 1 ≤ c' ∧ c' ≤ maxLen ∧ Sees w' w'.heap.size A' (pms [⟨3, p⟩]) ∧ Below W.heap.size W w') := Lib.hid fun W =>
      grant_as W b m k none 0 0 [] [⟨3, p⟩] 3 p 0 1 rfl (Nat.le_refl _) (by unfold maxLen; omega) (.inl rfl) (may_of (by omega) (by omega) (by omega) (fun p hp => by cases hp) (by simp)) (by
        have e1 : okP ⟨3, p⟩ = true := okP_iff.2 ⟨by simp, by simp only; omega⟩
        have e2 : sm [] = 0 := rfl
        unfold ge fr
        rw [e1, idx_nil, if_neg (by decide), if_neg (by decide), if_neg (by simp only [if_true, e2]; omega)]) (if_pos rfl) rfl
    obtain ⟨E, hE⟩ : ∃ E, ge ⟨b, m, k, none, 0, [⟨3, p⟩]⟩ 4 o = E := ⟨_, rfl⟩
    have hE2 : (E = 0 ∧ P2 ≤ b) ∨ (E = 20 ∧ ¬ P2 ≤ b) := by
      rw [← hE]
      have e1 : okP ⟨4, o⟩ = true := okP_iff.2 ⟨by simp, by simp only; omega⟩
      have e2 : sm [⟨3, p⟩] = p := by
        rw [sm_tot (by simp) (fun q hq => by simp at hq; subst hq; simp only; omega)]
        simp [pk, SatP.tot]
      have e3 : idx [⟨3, p⟩] 4 = -1 := idx_miss (fun j q hq => by
        have := List.mem_of_getElem? hq
        simp at this
        subst this
        simp)
      have e4 : fr ⟨b, m, k, none, 0, [⟨3, p⟩]⟩ = max 0 (m - k) := by unfold fr; rw [if_neg (by simp)]
      unfold ge
      rw [e1, if_neg (by decide), e4]
      simp only [e2, e3]
      rw [if_neg (by decide)]
      by_cases h : P2 ≤ b
      · exact .inl ⟨by rw [if_neg (by omega)], h⟩
      · exact .inr ⟨by rw [if_pos (by omega)], h⟩
    have G2 : Hid (∀ A c W, 1 ≤ c → c ≤ maxLen → Sees W W.heap.size A (pms [⟨3, p⟩]) → Calls Try.prog 6 #[.agg #[.int .i64 b, .int .i64 m, .int .i64 k, .slice A 1 c], .int .i64 4, .int .i64 o] W fun e w' => ∃ (A' : Option Addr) (N c' : Nat), e = .returned (.tuple #[.agg #[.int .i64 b, .int .i64 m, .int .i64 k, .slice A' N c'], .int .i64 E]) ∧ Below W.heap.size W w') := Lib.hid fun A c W h1 h2 h3 =>
      (grant_as W b m k A 1 c [⟨3, p⟩] _ 4 o E _ rfl h1 h2 h3 (may_of (by omega) (by omega) (by omega) (fun q hq => by simp at hq; subst hq; simp only; omega) (by simp)) (by rw [← hE]; rfl) rfl rfl).mono fun e w' ⟨A', c', h4, _, _, _, h5⟩ => ⟨A', _, c', h4, h5⟩
    clear hE hP1 hP2 hb hm hk hp ho
    generalize max 0 (m - k) = fr at *
    rcases hE2 with ⟨rfl, hE2⟩ | ⟨rfl, hE2⟩
    all_goals
      go_enter Try.func3, Try.ntmps3
      go_wp2_with (first
        | (go_at_call 5; (with_reducible refine (HA.out _).mono ?_); clear HA; rintro e w1 ⟨rfl, h1⟩; have hj1 := Lib.hid (((J.start w).next h1).push #[.int .i64 b, .int .i64 m, .int .i64 k, .slice none 0 0] 26); clear h1; obtain ⟨a0, a1, a2, a3⟩ := (hj1.out.bx 0 rfl).c4)
        | (go_at_call 6; (with_reducible refine (G1.out _).mono ?_); clear G1 a0 a1 a2 a3; rintro e w2 ⟨A1, c1, rfl, hc1, hm1, hs1, h2⟩; have hj2 := Lib.hid ((hj1.out.next h2).push #[.int .i64 b, .int .i64 m, .int .i64 k, .slice A1 1 c1] 26); have hS2 := Lib.hid (sees_next hs1 (below_box (o := .cells #[.int .i64 b, .int .i64 m, .int .i64 k, .slice A1 1 c1] 26))); clear hs1 h2 hj1; obtain ⟨a0, a1, a2, a3⟩ := (hj2.out.bx 0 rfl).c4)
        | (go_at_call 6; (with_reducible refine (G2.out _ _ _ hc1 hm1 hS2.out).mono ?_); clear G2 a0 a1 a2 a3; rintro e w3 ⟨A2, N, c2, rfl, h3⟩; have hj3 := Lib.hid ((hj2.out.next h3).push #[.int .i64 b, .int .i64 m, .int .i64 k, .slice A2 N c2] 26)))
      go_ret
      first | exact ⟨rfl, hj3.out.below⟩ | exact ⟨ret_bool (by simp; omega), hj3.out.below⟩
  · have G1 : Hid (∀ W, Calls Try.prog 6 #[.agg #[.int .i64 b, .int .i64 m, .int .i64 k, .slice none 0 0], .int .i64 3, .int .i64 p] W fun e w' => ∃ (A' : Option Addr) (c' : Nat), e = .returned (.tuple #[.agg #[.int .i64 b, .int .i64 m, .int .i64 k, .slice A' 0 c'], .int .i64 20]) ∧ 0 ≤ c' ∧ c' ≤ maxLen ∧ Sees w' w'.heap.size A' (pms []) ∧ Below W.heap.size W w') := Lib.hid fun W =>
      grant_as W b m k none 0 0 [] [] 3 p 20 0 rfl (Nat.le_refl _) (by unfold maxLen; omega) (.inl rfl) (may_of (by omega) (by omega) (by omega) (fun p hp => by cases hp) (by simp)) (by
        have e1 : okP ⟨3, p⟩ = true := okP_iff.2 ⟨by simp, by simp only; omega⟩
        have e2 : sm [] = 0 := rfl
        unfold ge fr
        rw [e1, idx_nil, if_neg (by decide), if_neg (by decide), if_pos (by simp only [if_true, e2]; omega)]) (if_neg (by decide)) rfl
    clear hP1 hP2 hb hm hk hp ho
    generalize max 0 (m - k) = fr at *
    go_enter Try.func3, Try.ntmps3
    go_wp2_with (first
      | (go_at_call 5; (with_reducible refine (HA.out _).mono ?_); clear HA; rintro e w1 ⟨rfl, h1⟩; have hj1 := Lib.hid (((J.start w).next h1).push #[.int .i64 b, .int .i64 m, .int .i64 k, .slice none 0 0] 26); clear h1; obtain ⟨a0, a1, a2, a3⟩ := (hj1.out.bx 0 rfl).c4)
      | (go_at_call 6; (with_reducible refine (G1.out _).mono ?_); clear G1 a0 a1 a2 a3; rintro e w2 ⟨A1, c1, rfl, hc1, hm1, hs1, h2⟩; have hj2 := Lib.hid ((hj1.out.next h2).push #[.int .i64 b, .int .i64 m, .int .i64 k, .slice A1 0 c1] 26); clear hs1 h2 hj1; obtain ⟨a0, a1, a2, a3⟩ := (hj2.out.bx 0 rfl).c4))
    go_ret
    exact ⟨rfl, hj2.out.below⟩

end Go.Proofs.Ytibolhdopeclmaa.Walk
