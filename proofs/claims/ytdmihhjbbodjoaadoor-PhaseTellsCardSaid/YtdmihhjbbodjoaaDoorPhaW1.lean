/- The walk of PhaseTells. -/
import Derived.Test.YtdmihhjbbodjoaaDoorPhaF
import Derived.OpenShut
namespace Go.Proofs.YtdmihhjbbodjoaaDoor.Walk
open Go.RowKit Go.ChangeShapes Go.Proofs.YtdmihhjbbodjoaaDoor.Plain Go.Proofs.YtdmihhjbbodjoaaDoor.PhaP Go.Proofs.YtdmihhjbbodjoaaDoor.Pha Go.Proofs.YtdmihhjbbodjoaaDoor.Box Go.Proofs.YtdmihhjbbodjoaaDoor.Held Go.Proofs.YtdmihhjbbodjoaaDoor.Sees Go.Proofs.YtdmihhjbbodjoaaDoor.Open
set_option linter.unusedVariables false

set_option maxRecDepth 100000 in
set_option maxHeartbeats 6400000 in
theorem phaseTells_walk (w : World) (hL : Lay w) (a b : Int) (a2 : Option Addr) (len2 cap2 : Nat) (z2 : List Int) (a3 : Option Addr) (len3 cap3 : Nat) (z3 : List Int) (wa : (Lit.int .i64 a).wf = true) (wb : (Lit.int .i64 b).wf = true)
    (hl2 : z2.length = len2) (hc2 : len2 ≤ cap2) (hx2 : cap2 ≤ maxLen) (hs2 : Sees w w.heap.size a2 (nums .i64 z2)) (hw2 : ∀ n ∈ z2, (Lit.int .i64 n).wf = true)
    (hl3 : z3.length = len3) (hc3 : len3 ≤ cap3) (hx3 : cap3 ≤ maxLen) (hs3 : Sees w w.heap.size a3 (nums .i64 z3)) (hw3 : ∀ n ∈ z3, (Lit.int .i64 n).wf = true) :
    Calls Tryd.prog 3 #[.int .i64 a, .int .i64 b, .slice a2 len2 cap2, .slice a3 len3 cap3] w fun e w' => e = .returned (.bool true) ∧ Below w.heap.size w w' := by
  clear wa wb hw2 hw3
  have HA : Hid (∀ W, Hid (Bw w W) → Calls Tryd.prog 8 #[] W (On w (.bool true))) := Lib.hid fun W hW => on_says hW (awake_any W (hL.bw hW.out))
  have K0 : Hid (Bw w w) := Lib.hid (Bw.refl w)
  have m2 : len2 ≤ maxLen := Nat.le_trans hc2 hx2
  have m3 : len3 ≤ maxLen := Nat.le_trans hc3 hx3
  by_cases hbig : 80 < len2
  · have g1 : (80 : Int) < (len2 : Int) := by omega
    clear hL hl2 hc2 hx2 hs2 hl3 hc3 hx3 hs3 m2 m3
    go_enter Tryd.func3, Tryd.ntmps3
    go_wp2_with (go_at_call 8; refine (HA.out _ K0).mono ?_; rintro e w1 ⟨rfl, K1⟩)
    go_ret
    exact ⟨rfl, K1.out⟩
  · by_cases hbig3 : 80 < len3
    · have g1 : ¬ (80 : Int) < (len2 : Int) := by omega
      have g2 : (80 : Int) < (len3 : Int) := by omega
      clear hL hl2 hc2 hx2 hs2 hl3 hc3 hx3 hs3 m2 m3
      go_enter Tryd.func3, Tryd.ntmps3
      go_wp2_with (go_at_call 8; refine (HA.out _ K0).mono ?_; rintro e w1 ⟨rfl, K1⟩)
      go_ret
      exact ⟨rfl, K1.out⟩
    · have g1 : ¬ (80 : Int) < (len2 : Int) := by omega
      have g2 : ¬ (80 : Int) < (len3 : Int) := by omega
      obtain ⟨s, hs⟩ : ∃ s, na a = s := ⟨_, rfl⟩
      obtain ⟨g, hg⟩ : ∃ g, my a b = g := ⟨_, rfl⟩
      obtain ⟨f, hf⟩ : ∃ f, ft z2 = f := ⟨_, rfl⟩
      obtain ⟨q, hq⟩ : ∃ q, fo z2 z3 = q := ⟨_, rfl⟩
      have H1 : Hid (∀ W, Hid (Bw w W) → Calls Tryd.prog 9 #[.int .i64 a] W (On w (.string s))) := Lib.hid fun W hW => on_same hW (hs ▸ Name_any a W (hL.bw hW.out))
      have H2 : Hid (∀ W, Hid (Bw w W) → Calls Tryd.prog 10 #[.int .i64 a] W (On w (.string s))) := Lib.hid fun W hW => on_says hW (hs ▸ rName_any a W)
      have H3 : Hid (∀ W, Hid (Bw w W) → Calls Tryd.prog 11 #[.int .i64 a, .int .i64 b] W (On w (.bool g))) := Lib.hid fun W hW => on_same hW (hg ▸ May_any a b W (hL.bw hW.out))
      have H4 : Hid (∀ W, Hid (Bw w W) → Calls Tryd.prog 12 #[.int .i64 a, .int .i64 b] W (On w (.bool g))) := Lib.hid fun W hW => on_same hW (hg ▸ rMay_any a b W)
      have H5 : Hid (∀ W, Hid (Bw w W) → Calls Tryd.prog 13 #[.slice a2 len2 cap2] W (On w (.bool f))) := Lib.hid fun W hW => on_says hW (hf ▸ Fits_any z2 a2 len2 cap2 W hl2 m2 (sees_bw hs2 hW.out))
      have H6 : Hid (∀ W, Hid (Bw w W) → Calls Tryd.prog 14 #[.slice a2 len2 cap2] W (On w (.bool f))) := Lib.hid fun W hW => on_same hW (hf ▸ rFits_any z2 a2 len2 cap2 W hl2 (by omega) (sees_bw hs2 hW.out))
      have H7 : Hid (∀ W, Hid (Bw w W) → Calls Tryd.prog 15 #[.slice a2 len2 cap2, .slice a3 len3 cap3] W (On w (.bool q))) := Lib.hid fun W hW =>
        on_says hW (hq ▸ Follows_any z2 z3 a2 a3 len2 cap2 len3 cap3 W (hL.bw hW.out) hl2 hl3 m2 m3 (sees_bw hs2 hW.out) (sees_bw hs3 hW.out))
      have H8 : Hid (∀ W, Hid (Bw w W) → Calls Tryd.prog 16 #[.slice a2 len2 cap2, .slice a3 len3 cap3] W (On w (.bool q))) := Lib.hid fun W hW =>
        on_says hW (hq ▸ rFollows_any z2 z3 a2 a3 len2 cap2 len3 cap3 W hl2 hl3 (by omega) (by omega) (sees_bw hs2 hW.out) (sees_bw hs3 hW.out))
      have k2 : (g == g) = true := by simp
      have k3 : (f == f) = true := by simp
      have k4 : (q == q) = true := by simp
      clear hL hl2 hc2 hx2 hs2 hl3 hc3 hx3 hs3 m2 m3 hs hg hf hq
      go_enter Tryd.func3, Tryd.ntmps3
      go_wp2_with (first
        | (go_at_call 8; refine (HA.out _ K0).mono ?_; rintro e w1 ⟨rfl, K1⟩)
        | (go_at_call 9; refine (H1.out _ K1).mono ?_; rintro e w2 ⟨rfl, K2⟩)
        | (go_at_call 10; refine (H2.out _ K2).mono ?_; rintro e w3 ⟨rfl, K3⟩)
        | (go_at_call 11; refine (H3.out _ K3).mono ?_; rintro e w4 ⟨rfl, K4⟩)
        | (go_at_call 12; refine (H4.out _ K4).mono ?_; rintro e w5 ⟨rfl, K5⟩)
        | (go_at_call 13; refine (H5.out _ K5).mono ?_; rintro e w6 ⟨rfl, K6⟩)
        | (go_at_call 14; refine (H6.out _ K6).mono ?_; rintro e w7 ⟨rfl, K7⟩)
        | (go_at_call 15; refine (H7.out _ K7).mono ?_; rintro e w8 ⟨rfl, K8⟩)
        | (go_at_call 16; refine (H8.out _ K8).mono ?_; rintro e w9 ⟨rfl, K9⟩))
      go_ret
      exact ⟨rfl, K9.out⟩
end Go.Proofs.YtdmihhjbbodjoaaDoor.Walk
