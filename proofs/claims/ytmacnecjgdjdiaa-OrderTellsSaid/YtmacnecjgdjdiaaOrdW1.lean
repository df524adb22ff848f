/- The walk of OrderTells. -/
import Derived.Test.YtmacnecjgdjdiaaOrdE
import Derived.OpenShut
namespace Go.Proofs.Ytmacnecjgdjdiaa.Walk
open Go.RowKit Go.ChangeShapes Go.Proofs.Ytmacnecjgdjdiaa.Plain Go.Proofs.Ytmacnecjgdjdiaa.OrdP Go.Proofs.Ytmacnecjgdjdiaa.Ord Go.Proofs.Ytmacnecjgdjdiaa.Box Go.Proofs.Ytmacnecjgdjdiaa.Held Go.Proofs.Ytmacnecjgdjdiaa.Sees Go.Proofs.Ytmacnecjgdjdiaa.Open
set_option linter.unusedVariables false

set_option maxRecDepth 100000 in
set_option maxHeartbeats 6400000 in
theorem orderTells_walk (w : World) (a0 : Option Addr) (len0 cap0 : Nat) (z0 : List Int) (d' o' c : Int)
    (hl0 : z0.length = len0) (hc0 : len0 ≤ cap0) (hx0 : cap0 ≤ maxLen) (hs0 : Sees w w.heap.size a0 (nums .i64 z0)) (hw0 : ∀ n ∈ z0, (Lit.int .i64 n).wf = true)
    (wd : (Lit.int .u64 d').wf = true) (wo' : (Lit.int .u64 o').wf = true) (wc : (Lit.int .i64 c).wf = true) :
    Calls Try.prog 3 #[.slice a0 len0 cap0, .int .u64 d', .int .u64 o', .int .i64 c] w fun e w' => e = .returned (.bool true) ∧ Below w.heap.size w w' := by
  have bd := bounds_u64 wd
  have bo := bounds_u64 wo'
  obtain ⟨d, rfl⟩ : ∃ d : Nat, d' = d := ⟨d'.toNat, by omega⟩
  obtain ⟨o, rfl⟩ : ∃ o : Nat, o' = o := ⟨o'.toNat, by omega⟩
  have hd : d < 18446744073709551616 := by omega
  have ho : o < 18446744073709551616 := by omega
  clear hw0 wd wo' wc bd bo
  have HA : Hid (∀ W, Hid (Bw w W) → Calls Try.prog 7 #[] W (On w (.bool true))) := Lib.hid fun W hW => on_says hW (awake_any W)
  have K0 : Hid (Bw w w) := Lib.hid (Bw.refl w)
  by_cases hbig : 200 < len0
  · have g1 : (200 : Int) < (len0 : Int) := by omega
    go_enter Try.func3, Try.ntmps3
    go_wp2_with (go_at_call 7; refine (HA.out _ K0).mono ?_; rintro e w1 ⟨rfl, K1⟩)
    go_ret
    exact ⟨rfl, K1.out⟩
  · have g1 : ¬ (200 : Int) < (len0 : Int) := by omega
    obtain ⟨x, hx⟩ : ∃ x, nx d o z0 = x := ⟨_, rfl⟩
    obtain ⟨n, hn⟩ : ∃ n, lf d o z0 = n := ⟨_, rfl⟩
    have HN : Hid (∀ W, Hid (Bw w W) → Calls Try.prog 11 #[.slice a0 len0 cap0, .int .u64 d, .int .u64 o] W (On w (.int .i64 x))) := Lib.hid fun W hW => next_on hl0 (by omega) hs0 d o hd ho x hx W hW
    have HL : Hid (∀ W, Hid (Bw w W) → Calls Try.prog 12 #[.slice a0 len0 cap0, .int .u64 d, .int .u64 o] W (On w (.int .i64 n))) := Lib.hid fun W hW => left_on hl0 (by omega) hs0 d o hd ho n hn W hW
    have HR : Hid (∀ W, Hid (Bw w W) → Calls Try.prog 8 #[.slice a0 len0 cap0, .int .u64 d, .int .u64 o] W fun e w' => e = .returned (.tuple #[.int .i64 x, .int .i64 n]) ∧ W = w') := Lib.hid fun W hW => by
      rw [← hx, ← hn]; exact roNext_any d o z0 a0 len0 cap0 W hd ho hl0 (by omega) (sees_bw hs0 hW.out)
    have HH : Hid (∀ W, Calls Try.prog 13 #[.int .u64 d, .int .i64 c] W fun e w' => e = .returned (.bool (hb d c)) ∧ W = w') := Lib.hid fun W => Has_any d c W hd
    have HH' : Hid (∀ W, Calls Try.prog 9 #[.int .u64 d, .int .i64 c] W fun e w' => e = .returned (.bool (hb d c)) ∧ W = w') := Lib.hid fun W => roHas_any d c W hd
    have HW : Hid (∀ W, Calls Try.prog 14 #[.int .u64 d, .int .i64 c] W fun e w' => e = .returned (.int .u64 (wi d c : Nat)) ∧ W = w') := Lib.hid fun W => With_any d c W hd
    have HU : Hid (∀ W, Calls Try.prog 15 #[.int .u64 d, .int .i64 c] W fun e w' => e = .returned (.int .u64 (wo d c : Nat)) ∧ W = w') := Lib.hid fun W => Without_any d c W hd
    have HO : Hid (∀ W, Calls Try.prog 10 #[.int .i64 c] W fun e w' => e = .returned (.int .u64 (bt c : Nat)) ∧ W = w') := Lib.hid fun W => roOne_any c W
    cases hh : hb d c
    · have e1 := wi_add hd hh
      have e2 := wo_hasnt hd hh
      have e3 := wi_lt c hd
      rw [hh] at HH HH'
      rw [e2] at HU
      rw [e1] at e3
      rw [e1] at HW
      generalize bt c = b at *
      have e4 : IntKind.u64.wrap ((d : Int) + (b : Int)) = ((d + b : Nat) : Int) := by rw [IntWalk.u64_in _ (by omega)]; omega
      clear hx hn hs0 hl0 hh e1 e2
      go_enter Try.func3, Try.ntmps3
      go_wp2_with (first
        | (go_at_call 7; refine (HA.out _ K0).mono ?_; rintro e w1 ⟨rfl, K1⟩)
        | (go_at_call 8; refine (HR.out _ K1).mono ?_; rintro e w' ⟨rfl, rfl⟩)
        | (go_at_call 9; refine (HH'.out _).mono ?_; rintro e w' ⟨rfl, rfl⟩)
        | (go_at_call 10; refine (HO.out _).mono ?_; rintro e w' ⟨rfl, rfl⟩)
        | (go_at_call 11; refine (HN.out _ K1).mono ?_; rintro e w2 ⟨rfl, K2⟩)
        | (go_at_call 12; refine (HL.out _ K2).mono ?_; rintro e w3 ⟨rfl, K3⟩)
        | (go_at_call 13; refine (HH.out _).mono ?_; rintro e w' ⟨rfl, rfl⟩)
        | (go_at_call 14; refine (HW.out _).mono ?_; rintro e w' ⟨rfl, rfl⟩)
        | (go_at_call 15; refine (HU.out _).mono ?_; rintro e w' ⟨rfl, rfl⟩))
      go_ret
      exact ⟨rfl, K3.out⟩
    · have e1 := wi_has hh
      have e2 := wo_sub hd hh
      have e3 := wo_lt c hd
      rw [hh] at HH HH'
      rw [e1] at HW
      generalize wo d c = y at *
      generalize bt c = b at *
      have e4 : IntKind.u64.wrap ((d : Int) - (b : Int)) = (y : Int) := by rw [IntWalk.u64_in _ (by omega)]; omega
      clear hx hn hs0 hl0 hh e1 e2 e3
      go_enter Try.func3, Try.ntmps3
      go_wp2_with (first
        | (go_at_call 7; refine (HA.out _ K0).mono ?_; rintro e w1 ⟨rfl, K1⟩)
        | (go_at_call 8; refine (HR.out _ K1).mono ?_; rintro e w' ⟨rfl, rfl⟩)
        | (go_at_call 9; refine (HH'.out _).mono ?_; rintro e w' ⟨rfl, rfl⟩)
        | (go_at_call 10; refine (HO.out _).mono ?_; rintro e w' ⟨rfl, rfl⟩)
        | (go_at_call 11; refine (HN.out _ K1).mono ?_; rintro e w2 ⟨rfl, K2⟩)
        | (go_at_call 12; refine (HL.out _ K2).mono ?_; rintro e w3 ⟨rfl, K3⟩)
        | (go_at_call 13; refine (HH.out _).mono ?_; rintro e w' ⟨rfl, rfl⟩)
        | (go_at_call 14; refine (HW.out _).mono ?_; rintro e w' ⟨rfl, rfl⟩)
        | (go_at_call 15; refine (HU.out _).mono ?_; rintro e w' ⟨rfl, rfl⟩))
      go_ret
      exact ⟨rfl, K3.out⟩
end Go.Proofs.Ytmacnecjgdjdiaa.Walk
