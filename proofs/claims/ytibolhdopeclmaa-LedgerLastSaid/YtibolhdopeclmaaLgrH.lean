/- The document's example. -/
import Derived.Test.YtibolhdopeclmaaLgrE
import Derived.Test.YtibolhdopeclmaaLgrG
namespace Go.Proofs.Ytibolhdopeclmaa.Lgr
open Go.RowKit Go.Proofs.Ytibolhdopeclmaa.LgrP Go.Proofs.Ytibolhdopeclmaa.Open Go.Proofs.Ytibolhdopeclmaa.Sees Go.Proofs.Ytibolhdopeclmaa.Box Go.Proofs.Ytibolhdopeclmaa.Held
set_option linter.unusedVariables false

/-- Grant, at numbers -/
theorem grant_as (w : World) (b m k : Int) (A : Option Addr) (n c : Nat) (l L : List Pm) (car peak E : Int) (N : Nat) (hl : l.length = n) (hc : n ≤ c) (hm : c ≤ maxLen) (hs : Sees w w.heap.size A (pms l)) (hmay : (⟨b, m, k, A, c, l⟩ : Lg).May) (hE : ge ⟨b, m, k, A, c, l⟩ car peak = E) (hL : (if E = 0 then l ++ [⟨car, peak⟩] else l) = L) (hN : L.length = N) :
    Calls Try.prog 6 #[.agg #[.int .i64 b, .int .i64 m, .int .i64 k, .slice A n c], .int .i64 car, .int .i64 peak] w fun e w' => ∃ (A' : Option Addr) (c' : Nat), e = .returned (.tuple #[.agg #[.int .i64 b, .int .i64 m, .int .i64 k, .slice A' N c'], .int .i64 E]) ∧ N ≤ c' ∧ c' ≤ maxLen ∧ Sees w' w'.heap.size A' (pms L) ∧ Below w.heap.size w w' := by
  have := grant_any ⟨b, m, k, A, c, l⟩ car peak w ⟨by simp only; omega, hm, hs⟩ hmay
  unfold GrantPost gl at this
  rw [hE, hL, hN] at this
  subst hl
  exact this
/-- Fit, at numbers -/
theorem fit_as (w : World) (b m k : Int) (A : Option Addr) (n c : Nat) (l : List Pm) (bud q : Int) (s r : Nat) (hl : l.length = n) (hn : n ≤ 4096) (hc : n ≤ c) (hm : c ≤ maxLen) (hs : Sees w w.heap.size A (pms l)) (hp : ∀ p ∈ l, 0 ≤ p.p ∧ p.p ≤ 1048576) (hq : cl bud = q) (hf : fit l q = s) (hr : n - s = r) :
    Calls Try.prog 8 #[.agg #[.int .i64 b, .int .i64 m, .int .i64 k, .slice A n c], .int .i64 bud] w fun e w' => ∃ (A' : Option Addr) (c' : Nat) (A2 : Option Addr) (c2 : Nat), e = .returned (.tuple #[.agg #[.int .i64 q, .int .i64 m, .int .i64 k, .slice A' s c'], .slice A2 r c2]) ∧
      s ≤ c' ∧ c' ≤ maxLen ∧ Sees w' w'.heap.size A' (pms (l.take s)) ∧ Sees w' w'.heap.size A2 (nums .i64 ((l.drop s).reverse.map Pm.c)) ∧ Below w.heap.size w w' := by
  have := fit_any ⟨b, m, k, A, c, l⟩ bud w ⟨by simp only; omega, hm, hs⟩ (by simp only; omega) hp
  unfold FitPost at this
  simp only [hq, hf] at this
  subst hl hr
  exact this
theorem sum_as (w : World) (b m k : Int) (A : Option Addr) (n c : Nat) (l : List Pm) (S : Int) (hl : l.length = n) (hn : n ≤ 4096) (hc : n ≤ c) (hm : c ≤ maxLen) (hs : Sees w w.heap.size A (pms l)) (hS : sm l = S) : Calls Try.prog 9 #[.agg #[.int .i64 b, .int .i64 m, .int .i64 k, .slice A n c]] w (Says w (.int .i64 S)) := by
  have := sum_any ⟨b, m, k, A, c, l⟩ w ⟨by simp only; omega, hm, hs⟩ (by simp only; omega)
  simp only [hS] at this
  subst hl
  exact this
theorem may_of {b m k : Int} {A : Option Addr} {c : Nat} {l : List Pm} (hb : 0 ≤ b ∧ b ≤ 1048576) (hm : 0 ≤ m ∧ m ≤ 1048576) (hk : 0 ≤ k ∧ k ≤ 1048576) (hp : ∀ p ∈ l, 0 ≤ p.p ∧ p.p ≤ 1048576) (hl : l.length ≤ 64) : (⟨b, m, k, A, c, l⟩ : Lg).May := ⟨hb, hm, hk, hp, hl⟩
theorem sees_next {W W' : World} {A : Option Addr} {xs : List Value} (h : Sees W W.heap.size A xs) (hb : Below W.heap.size W W') : Sees W' W'.heap.size A xs := (h.below hb (Nat.le_refl _)).more hb.size

set_option maxRecDepth 100000 in
set_option maxHeartbeats 3200000 in
theorem awake_any (w : World) : Calls Try.prog 5 #[] w (Says w (.bool true)) := by
  have G1 : Hid (∀ W, Calls Try.prog 6 #[.agg #[.int .i64 10, .int .i64 0, .int .i64 0, .slice none 0 0], .int .i64 1, .int .i64 6] W fun e w' => ∃ (A' : Option Addr) (c' : Nat), e = .returned (.tuple #[.agg #[.int .i64 10, .int .i64 0, .int .i64 0, .slice A' 1 c'], .int .i64 0]) ∧ 1 ≤ c' ∧ c' ≤ maxLen ∧ Sees w' w'.heap.size A' (pms [⟨1, 6⟩]) ∧ Below W.heap.size W w') := Lib.hid fun W =>
    grant_as W 10 0 0 none 0 0 [] [⟨1, 6⟩] 1 6 0 1 rfl (Nat.le_refl _) (by unfold maxLen; omega) (.inl rfl) (may_of (by omega) (by omega) (by omega) (fun p hp => by cases hp) (by simp)) (by decide) (if_pos rfl) rfl
  have G2 : Hid (∀ A c W, 1 ≤ c → c ≤ maxLen → Sees W W.heap.size A (pms [⟨1, 6⟩]) → Calls Try.prog 6 #[.agg #[.int .i64 10, .int .i64 0, .int .i64 0, .slice A 1 c], .int .i64 2, .int .i64 5] W fun e w' => ∃ (A' : Option Addr) (c' : Nat), e = .returned (.tuple #[.agg #[.int .i64 10, .int .i64 0, .int .i64 0, .slice A' 1 c'], .int .i64 20]) ∧ 1 ≤ c' ∧ c' ≤ maxLen ∧ Sees w' w'.heap.size A' (pms [⟨1, 6⟩]) ∧ Below W.heap.size W w') := Lib.hid fun A c W h1 h2 h3 =>
    grant_as W 10 0 0 A 1 c [⟨1, 6⟩] [⟨1, 6⟩] 2 5 20 1 rfl h1 h2 h3 (may_of (by omega) (by omega) (by omega) (fun p hp => by simp at hp; subst hp; simp) (by simp)) rfl (if_neg (by decide)) rfl
  have F1 : Hid (∀ A c W, 1 ≤ c → c ≤ maxLen → Sees W W.heap.size A (pms [⟨1, 6⟩]) → Calls Try.prog 8 #[.agg #[.int .i64 10, .int .i64 0, .int .i64 0, .slice A 1 c], .int .i64 5] W fun e w' => ∃ (A' : Option Addr) (c' : Nat) (A2 : Option Addr) (c2 : Nat), e = .returned (.tuple #[.agg #[.int .i64 5, .int .i64 0, .int .i64 0, .slice A' 0 c'], .slice A2 1 c2]) ∧
      0 ≤ c' ∧ c' ≤ maxLen ∧ Sees w' w'.heap.size A' (pms []) ∧ Sees w' w'.heap.size A2 (nums .i64 [1]) ∧ Below W.heap.size W w') := Lib.hid fun A c W h1 h2 h3 =>
    fit_as W 10 0 0 A 1 c [⟨1, 6⟩] 5 5 0 1 rfl (by omega) h1 h2 h3 (fun p hp => by simp at hp; subst hp; simp) (by decide) (by decide) rfl
  have S1 : Hid (∀ A c W, 1 ≤ c → c ≤ maxLen → Sees W W.heap.size A (pms [⟨1, 6⟩]) → Calls Try.prog 9 #[.agg #[.int .i64 10, .int .i64 0, .int .i64 0, .slice A 1 c]] W (Says W (.int .i64 6))) := Lib.hid fun A c W h1 h2 h3 =>
    sum_as W 10 0 0 A 1 c [⟨1, 6⟩] 6 rfl (by omega) h1 h2 h3 (by decide)
  have hj := Lib.hid (J.one w #[.int .i64 10, .int .i64 0, .int .i64 0, .slice none 0 0] 26)
  obtain ⟨a0, a1, a2, a3⟩ := (hj.out.bx 0 rfl).c4
  go_enter Try.func5, Try.ntmps5
  go_wp2_with (first
    | (go_at_call 6; (with_reducible refine (G1.out _).mono ?_); clear G1 a0 a1 a2 a3; rintro e w1 ⟨A1, c1, rfl, hc1, hm1, hs1, h1⟩; have hj1 := Lib.hid ((hj.out.next h1).push #[.int .i64 10, .int .i64 0, .int .i64 0, .slice A1 1 c1] 26); have hS1 := Lib.hid (sees_next hs1 (below_box (o := .cells #[.int .i64 10, .int .i64 0, .int .i64 0, .slice A1 1 c1] 26))); clear hs1 h1 hj; obtain ⟨a0, a1, a2, a3⟩ := (hj1.out.bx 0 rfl).c4)
    | (go_at_call 6; (with_reducible refine (G2.out _ _ _ hc1 hm1 hS1.out).mono ?_); clear G2 a0 a1 a2 a3; rintro e w2 ⟨A2, c2, rfl, hc2, hm2, hs2, h2⟩; have hj2 := Lib.hid ((hj1.out.next h2).push #[.int .i64 10, .int .i64 0, .int .i64 0, .slice A2 1 c2] 26); have hS2 := Lib.hid (sees_next hS1.out (below_more h2 (below_box (o := .cells #[.int .i64 10, .int .i64 0, .int .i64 0, .slice A2 1 c2] 26)) (Nat.le_refl _))); clear hs2 h2 hS1 hj1; obtain ⟨a0, a1, a2, a3⟩ := (hj2.out.bx 1 rfl).c4)
    | (go_at_call 8; (with_reducible refine (F1.out _ _ _ hc1 hm1 hS2.out).mono ?_); clear F1 a0 a1 a2 a3; rintro e w3 ⟨A3, c3, A4, c4, rfl, hc3, hm3, hs3, hs4, h3⟩; have hj3 := Lib.hid ((hj2.out.next h3).push #[.int .i64 5, .int .i64 0, .int .i64 0, .slice A3 0 c3] 26); have hS3 := Lib.hid (sees_next hS2.out (below_more h3 (below_box (o := .cells #[.int .i64 5, .int .i64 0, .int .i64 0, .slice A3 0 c3] 26)) (Nat.le_refl _))); have hS4 := sees_next hs4 (below_box (o := .cells #[.int .i64 5, .int .i64 0, .int .i64 0, .slice A3 0 c3] 26)); obtain ⟨gb, go, rfl, hgb, hgc⟩ := hS4.at_ (k := 0) (u := .int .i64 1) rfl; rw [Nat.add_zero] at hgc; clear hs3 hs4 h3 hS4 hS2 hj2; obtain ⟨a0, a1, a2, a3⟩ := (hj3.out.bx 2 rfl).c4; obtain ⟨b0, b1, b2, b3⟩ := (hj3.out.bx 0 rfl).c4)
    | (go_at_call 9; (with_reducible refine (S1.out _ _ _ hc1 hm1 hS3.out).mono ?_); clear S1; rintro e w4 ⟨rfl, h4⟩))
  go_ret
  exact ⟨rfl, (hj3.out.next h4).below⟩

end Go.Proofs.Ytibolhdopeclmaa.Lgr
