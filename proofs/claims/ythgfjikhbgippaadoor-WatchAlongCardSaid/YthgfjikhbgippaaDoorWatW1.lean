/- The walk of WatchTells. -/
import Derived.Test.YthgfjikhbgippaaDoorWatW3
namespace Go.Proofs.YthgfjikhbgippaaDoor.Walk
open Go.RowKit Go.Proofs.YthgfjikhbgippaaDoor.Plain Go.Proofs.YthgfjikhbgippaaDoor.WatP Go.Proofs.YthgfjikhbgippaaDoor.OrdP Go.Proofs.YthgfjikhbgippaaDoor.PhaP Go.Proofs.YthgfjikhbgippaaDoor.FedP Go.Proofs.YthgfjikhbgippaaDoor.Open Go.Proofs.YthgfjikhbgippaaDoor.Sees Go.Proofs.YthgfjikhbgippaaDoor.Box Go.Proofs.YthgfjikhbgippaaDoor.Held Go.Proofs.YthgfjikhbgippaaDoor.Pha Go.Proofs.YthgfjikhbgippaaDoor.Wat
set_option linter.unusedVariables false
set_option linter.unusedSimpArgs false
set_option maxRecDepth 100000

theorem bo_nat (lag : Int) : ∃ k : Nat, bo lag 0 8 = k := ⟨(bo lag 0 8).toNat, by unfold bo; omega⟩
theorem wf64 {z : Int} (h : (Lit.int .i64 z).wf = true) : -9223372036854775808 ≤ z ∧ z < 9223372036854775808 := by
  have e1 : IntKind.i64.min = -9223372036854775808 := rfl
  have e2 : IntKind.i64.max = 9223372036854775807 := rfl
  simp only [Lit.wf, Bool.and_eq_true, decide_eq_true_eq] at h
  omega
set_option maxHeartbeats 6400000 in
theorem watchTells_walk (w : World) (hG : Lay w) (a0 : Int) (a1 : Option Addr) (len1 cap1 : Nat) (z1 : List Fc) (a2 a3 : Int) (w0 : (Lit.int .i64 a0).wf = true) (hl1 : z1.length = len1) (hc1 : len1 ≤ cap1) (hx1 : cap1 ≤ maxLen) (hs1 : Sees w w.heap.size a1 (z1.map fcc).flatten) (hi1 : ∀ x ∈ z1, x.In w)
    (w2 : (Lit.int .i64 a2).wf = true) (w3 : (Lit.int .i64 a3).wf = true) : Calls Tryd.prog 3 #[.int .i64 a0, .slice a1 len1 cap1, .int .i64 a2, .int .i64 a3] w (Says w (.bool true)) := by
  have hsh := sh_of hs1 hi1
  have hm0 : len1 ≤ maxLen := Nat.le_trans hc1 hx1
  have h3 := (wf64 w3).2
  have HA := Lib.hid (Wat.awake_any w hG)
  have HS := Lib.hid fun W (hW : Bw w W) => short_any z1 a1 len1 cap1 W hl1 hm0 (hsh.bw hW)
  have HG := Lib.hid hG
  have HSH := Lib.hid hsh
  have HL := Lib.hid hl1
  have HM := Lib.hid hm0
  have H3 := Lib.hid h3
  clear hG hs1 hi1 hsh w0 w2 w3 hl1 hc1 hx1 hm0 h3
  go_enter Tryd.func3, Tryd.ntmps3
  go_wp2_with (first
    | (go_at_call 6; ((with_reducible refine HA.out.mono ?_); clear HA; rintro e w1 ⟨rfl, k1⟩; have K1 : Hid (Bw w w1) := Lib.hid k1)))
  refine (HS.out _ K1.out).mono ?_
  rintro e w2 ⟨g, rfl, rfl, hf⟩
  have HFew := Lib.hid hf
  clear HS hf k1
  cases g
  · go_wp2
    go_ret
    exact ⟨rfl, K1.out⟩
  · have hfew := HFew.out rfl
    have h60 : len1 ≤ 60 := by have := hfew.len; have := HL.out; omega
    have HROW := Lib.hid hfew.row
    have HALL := Lib.hid (all_any z1 a1 len1 cap1 w1 HL.out (by omega) (HSH.out.bw K1.out))
    clear hfew HFew
    go_wp2_with fail
    refine HALL.out.mono ?_
    rintro e w3 ⟨B, kk, rfl, hb3, hse3⟩
    have K3 : Hid (Bw w w3) := Lib.hid (K1.out.next hb3.out)
    have hsB : Sh w3 B z1 := ⟨hse3.out, fun x hx => (HSH.out.rows x hx).bw K3.out, HSH.out.bits⟩
    obtain ⟨k, hk⟩ := bo_nat a0
    have HO : Hid (∀ (t : Nat) W, t < len1 → Hid (Bw w3 W) → Calls Tryd.prog 9 #[.int .i64 a0, .slice B len1 kk, .int .i64 t] W (On w3 (.bool (ov k z1 t)))) := Lib.hid fun t W ht hW => on_says hW (rOver_any a0 k hk z1 B len1 kk t W HL.out h60 ht (hsB.bw hW.out))
    have HB : Hid (∀ (t : Nat) W, t < len1 → Hid (Bw w3 W) → Calls Tryd.prog 10 #[.slice B len1 kk, .int .i64 t] W (On w3 (.bool (br z1 t)))) := Lib.hid fun t W ht hW => on_says hW (rBreaks_any z1 B len1 kk t W HL.out h60 HROW.out ht (hsB.bw hW.out))
    obtain ⟨v, hv⟩ := Fi.ex (rst z1 a2) a3.toNat len1
    obtain ⟨f, hfv⟩ : ∃ f, fz v a3.toNat = f := ⟨_, rfl⟩
    have HF : Hid (∀ W, Hid (Bw w3 W) → Calls Tryd.prog 13 #[.int .i64 a2, .int .i64 a3, .slice a1 len1 cap1] W (On w3 (.int .i64 f))) := Lib.hid fun W hW => on_says hW (hfv ▸ Frees_any z1 a1 len1 cap1 a2 a3 H3.out _ rfl W HL.out HM.out ((HSH.out.bw K3.out).bw hW.out) v hv)
    have HR : Hid (∀ W, Hid (Bw w3 W) → Calls Tryd.prog 14 #[.slice B len1 kk, .int .i64 a2, .int .i64 a3] W (On w3 (.int .i64 f))) := Lib.hid fun W hW => on_same hW (hfv ▸ rFrees_any z1 B len1 kk a2 a3 H3.out _ rfl W HL.out HM.out (hsB.bw hW.out) v hv)
    have HP : Hid (∀ (o : Int) W, Fi (ov k z1) 0 len1 o → Hid (Bw w3 W) → Calls Tryd.prog 11 #[.int .i64 a0, .slice a1 len1 cap1] W (On w3 (.int .i64 o))) := Lib.hid fun o W ho hW => on_says hW (Over_any a0 k hk z1 a1 len1 cap1 W HL.out HM.out ((HSH.out.bw K3.out).bw hW.out) o ho)
    have HQ : Hid (∀ (o : Int) W, Fi (br z1) 0 len1 o → Hid (Bw w3 W) → Calls Tryd.prog 12 #[.slice a1 len1 cap1] W (On w3 (.int .i64 o))) := Lib.hid fun o W ho hW => on_says hW (Breaks_any z1 a1 len1 cap1 W ((HG.out.bw K3.out).bw hW.out) HL.out (by omega) ((HSH.out.bw K3.out).bw hW.out) o ho)
    have e0 : IntKind.i64.wrap ((len1 : Int) - 1) = (len1 : Int) - 1 := IntWalk.i64_in _ (by omega)
    have KR : Hid (Bw w3 w3) := Lib.hid (Bw.refl w3)
    clear hsB hk hv hfv hb3 hse3 HALL HSH HM H3 HROW HG HL
    go_wp2
    go_loopw [12, 13, 14] (fun p q i wr => ∃ (j : Nat) (t o b : Int), i = .int .i64 t ∧ Hid (t = (j : Int) - 1) ∧ j ≤ len1 ∧ p = .int .i64 o ∧ q = .int .i64 b ∧ Hid (Fi (ov k z1) j len1 o) ∧ Hid (Fi (br z1) j len1 b) ∧ Hid (Bw w3 wr)) (fun _ _ i _ => (intOf i + 1).toNat)
    case atStart => exact ⟨len1, _, -1, -1, rfl, Lib.hid rfl, Nat.le_refl _, rfl, rfl, Lib.hid (Fi.none _ (Nat.le_refl _)), Lib.hid (Fi.none _ (Nat.le_refl _)), KR⟩
    case round =>
      clear KR
      obtain ⟨j, t, o, b, rfl, ht, hj, rfl, rfl, ho, hb, K⟩ := hrel
      rcases Nat.eq_zero_or_pos j with rfl | hpos
      · obtain rfl : t = -1 := by have := ht.out; omega
        have HP1 := Lib.hid fun W hW => HP.out o W ho.out hW
        have HQ1 := Lib.hid fun W hW => HQ.out b W hb.out hW
        have ko : (o == o) = true := by simp
        have kb : (b == b) = true := by simp
        have kf : (f == f) = true := by simp
        clear HP HQ HO HB ht
        go_wp2_with (first
          | (go_at_call 11; ((with_reducible refine (HP1.out _ K).mono ?_); clear HP1; rintro e w4 ⟨rfl, K4⟩))
          | (go_at_call 12; ((with_reducible refine (HQ1.out _ K4).mono ?_); clear HQ1; rintro e w5 ⟨rfl, K5⟩))
          | (go_at_call 13; ((with_reducible refine (HF.out _ K5).mono ?_); clear HF; rintro e w6 ⟨rfl, K6⟩))
          | (go_at_call 14; ((with_reducible refine (HR.out _ K6).mono ?_); clear HR; rintro e w7 ⟨rfl, K7⟩)))
        go_ret
        exact ⟨rfl, K3.out.next K7.out⟩
      · obtain ⟨s, rfl⟩ : ∃ s, j = s + 1 := ⟨j - 1, by omega⟩
        obtain rfl : t = (s : Int) := by have := ht.out; omega
        have HO1 := Lib.hid fun W hW => HO.out s W (by omega) hW
        have HB1 := Lib.hid fun W hW => HB.out s W (by omega) hW
        have i1 : (0 : Int) ≤ (s : Int) := by omega
        obtain ⟨d, hd⟩ : ∃ d, (s : Int) - 1 = d := ⟨_, rfl⟩
        have e3 : IntKind.i64.wrap ((s : Int) - 1) = d := by rw [IntWalk.i64_in _ (by omega)]; exact hd
        have HD := Lib.hid hd
        have HJ := Lib.hid hj
        clear HP HQ HF HR ht hd e0
        cases h1 : ov k z1 s
        · have ho2 := Lib.hid (ho.out.on h1)
          cases h2 : br z1 s
          · have hb2 := Lib.hid (hb.out.on h2)
            rw [h1] at HO1
            rw [h2] at HB1
            clear h1 h2
            go_wp2_with (first
              | (go_at_call 9; ((with_reducible refine (HO1.out _ K).mono ?_); clear HO1; rintro e w4 ⟨rfl, K4⟩))
              | (go_at_call 10; ((with_reducible refine (HB1.out _ K4).mono ?_); clear HB1; rintro e w5 ⟨rfl, K5⟩)))
            go_roundw
            case rel => exact ⟨s, d, _, _, rfl, Lib.hid HD.out.symm, by omega, rfl, rfl, ho2, hb2, K5⟩
            case measure => have := HD.out; simp [intOf]; omega
          · have hb2 := Lib.hid (Fi.here (show s < len1 by omega) h2)
            rw [h1] at HO1
            rw [h2] at HB1
            clear h1 h2
            go_wp2_with (first
              | (go_at_call 9; ((with_reducible refine (HO1.out _ K).mono ?_); clear HO1; rintro e w4 ⟨rfl, K4⟩))
              | (go_at_call 10; ((with_reducible refine (HB1.out _ K4).mono ?_); clear HB1; rintro e w5 ⟨rfl, K5⟩)))
            go_roundw
            case rel => exact ⟨s, d, _, _, rfl, Lib.hid HD.out.symm, by omega, rfl, rfl, ho2, hb2, K5⟩
            case measure => have := HD.out; simp [intOf]; omega
        · have ho2 := Lib.hid (Fi.here (show s < len1 by omega) h1)
          cases h2 : br z1 s
          · have hb2 := Lib.hid (hb.out.on h2)
            rw [h1] at HO1
            rw [h2] at HB1
            clear h1 h2
            go_wp2_with (first
              | (go_at_call 9; ((with_reducible refine (HO1.out _ K).mono ?_); clear HO1; rintro e w4 ⟨rfl, K4⟩))
              | (go_at_call 10; ((with_reducible refine (HB1.out _ K4).mono ?_); clear HB1; rintro e w5 ⟨rfl, K5⟩)))
            go_roundw
            case rel => exact ⟨s, d, _, _, rfl, Lib.hid HD.out.symm, by omega, rfl, rfl, ho2, hb2, K5⟩
            case measure => have := HD.out; simp [intOf]; omega
          · have hb2 := Lib.hid (Fi.here (show s < len1 by omega) h2)
            rw [h1] at HO1
            rw [h2] at HB1
            clear h1 h2
            go_wp2_with (first
              | (go_at_call 9; ((with_reducible refine (HO1.out _ K).mono ?_); clear HO1; rintro e w4 ⟨rfl, K4⟩))
              | (go_at_call 10; ((with_reducible refine (HB1.out _ K4).mono ?_); clear HB1; rintro e w5 ⟨rfl, K5⟩)))
            go_roundw
            case rel => exact ⟨s, d, _, _, rfl, Lib.hid HD.out.symm, by omega, rfl, rfl, ho2, hb2, K5⟩
            case measure => have := HD.out; simp [intOf]; omega
end Go.Proofs.YthgfjikhbgippaaDoor.Walk
