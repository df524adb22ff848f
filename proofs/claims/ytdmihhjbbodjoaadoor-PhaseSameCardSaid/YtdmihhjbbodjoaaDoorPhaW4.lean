/- The walk of PhaseSame. -/
import Derived.Test.YtdmihhjbbodjoaaDoorPhaF
import Derived.OpenShut
import Derived.Laws.OwnMore
import Derived.Deep.DeepMust
namespace Go.Proofs.YtdmihhjbbodjoaaDoor.Walk
open Go.RowKit Go.ChangeShapes Go.Proofs.YtdmihhjbbodjoaaDoor.Plain Go.Proofs.YtdmihhjbbodjoaaDoor.PhaP Go.Proofs.YtdmihhjbbodjoaaDoor.Pha Go.Proofs.YtdmihhjbbodjoaaDoor.Box Go.Proofs.YtdmihhjbbodjoaaDoor.Held Go.Proofs.YtdmihhjbbodjoaaDoor.Sees Go.Proofs.YtdmihhjbbodjoaaDoor.Open
set_option linter.unusedVariables false

theorem info_int : (Tryd.prog.info? 3).map (fun i => (i.zero, i.size, i.bytes)) = some (some (.int .i64 0), 1, 8) := by kernel_rfl

theorem own_some {w : World} {base size n : Nat} {e : TypeId} {v : Value} {xs : List Value} (h : w.ownsRow base e size v n xs) (hn : 0 < n) : ∃ g cap, v = .slice (some ⟨g, 0, none⟩) n cap := by
  rcases h.2 with ⟨_, h0⟩ | ⟨g, cap, _, hv, _⟩
  · omega
  · exact ⟨g, cap, hv⟩

/-- the calls behind the store, at a letter -/
structure same_calls (w w5 : World) (g : Nat) (a0 : Option Addr) (len0 cap0 C : Nat) : Prop where
  fits : Calls Tryd.prog 13 #[.slice (some ⟨g, 0, none⟩) len0 C] w5 (On w5 (.bool true))
  follows : ∀ W, Hid (Bw w5 W) → Calls Tryd.prog 15 #[.slice a0 len0 cap0, .slice (some ⟨g, 0, none⟩) len0 C] W (On w5 (.bool true))
  accept : ∀ W, Hid (Bw w5 W) → Calls Tryd.prog 17 #[.slice (some ⟨W.heap.size, 0, none⟩) 3 3] (W.alloc (.cells #[.slice a0 len0 cap0, .slice a0 len0 cap0, .slice (some ⟨g, 0, none⟩) len0 C] 22)) (On w5 (.int .i64 3))
theorem same_laid {w w5 : World} {g : Nat} {a0 : Option Addr} {len0 cap0 C q : Nat} {z0 : List Int} (hL : Lay w) (hW : Bw w w5) (hl : z0.length = len0) (h60 : len0 ≤ 60) (hs : Sees w w.heap.size a0 (nums .i64 z0))
    (hm : Sees w5 w5.heap.size (some ⟨g, 0, none⟩) (nums .i64 (z0.set q 5))) (h1 : ft (z0.set q 5) = true) (h2 : fo z0 (z0.set q 5) = true) (h3 : Ac [z0, z0, z0.set q 5] 3) : same_calls w w5 g a0 len0 cap0 C := by
  have hl2 : (z0.set q 5).length = len0 := by rw [List.length_set]; exact hl
  have hmx : len0 ≤ maxLen := by unfold maxLen; omega
  refine ⟨?_, fun W hk => ?_, fun W hk => ?_⟩
  · have := Fits_any (z0.set q 5) (some ⟨g, 0, none⟩) len0 C w5 hl2 hmx hm
    rw [h1] at this
    exact on_says (Lib.hid (Bw.refl _)) this
  · have := Follows_any z0 (z0.set q 5) a0 (some ⟨g, 0, none⟩) len0 cap0 len0 C W ((hL.bw hW).bw hk.out) hl hl2 hmx hmx (sees_bw (sees_bw hs hW) hk.out) (sees_bw hm hk.out)
    rw [h2] at this
    exact on_says hk this
  · have hb : Bw w5 (W.alloc (.cells #[.slice a0 len0 cap0, .slice a0 len0 cap0, .slice (some ⟨g, 0, none⟩) len0 C] 22)) := hk.out.next below_box
    have hbx := Bx.new W #[.slice a0 len0 cap0, .slice a0 len0 cap0, .slice (some ⟨g, 0, none⟩) len0 C] 22
    have v1 : RowN.val ⟨a0, cap0, z0⟩ = .slice a0 len0 cap0 := by unfold RowN.val; rw [hl]
    have v2 : RowN.val ⟨some ⟨g, 0, none⟩, C, z0.set q 5⟩ = .slice (some ⟨g, 0, none⟩) len0 C := by unfold RowN.val; rw [hl2]
    have ok1 : Rok (W.alloc (.cells #[.slice a0 len0 cap0, .slice a0 len0 cap0, .slice (some ⟨g, 0, none⟩) len0 C] 22)) ⟨a0, cap0, z0⟩ := ⟨sees_bw (sees_bw hs hW) hb, by show z0.length ≤ _; rw [hl]; exact hmx⟩
    have ok2 : Rok (W.alloc (.cells #[.slice a0 len0 cap0, .slice a0 len0 cap0, .slice (some ⟨g, 0, none⟩) len0 C] 22)) ⟨some ⟨g, 0, none⟩, C, z0.set q 5⟩ := ⟨sees_bw hm hb, by show (z0.set q 5).length ≤ _; rw [hl2]; exact hmx⟩
    refine on_says (Lib.hid hb) (Accept_any [⟨a0, cap0, z0⟩, ⟨a0, cap0, z0⟩, ⟨some ⟨g, 0, none⟩, C, z0.set q 5⟩] _ 3 3 3 _ ((hL.bw hW).bw hb) rfl (by unfold maxLen; omega) ?_ (fun r hr => ?_) h3)
    · simp only [List.map_cons, List.map_nil, v1, v2]
      exact sees_bx hbx hbx.lt
    · rcases List.mem_cons.1 hr with rfl | hr
      · exact ok1
      rcases List.mem_cons.1 hr with rfl | hr
      · exact ok1
      rcases List.mem_cons.1 hr with rfl | hr
      · exact ok2
      cases hr

set_option maxRecDepth 100000 in
set_option maxHeartbeats 6400000 in
theorem phaseSame_walk (w : World) (hL : Lay w) (a0 : Option Addr) (len0 cap0 : Nat) (z0 : List Int) (a1 : Int)
    (hl0 : z0.length = len0) (hc0 : len0 ≤ cap0) (hx0 : cap0 ≤ maxLen) (hs0 : Sees w w.heap.size a0 (nums .i64 z0)) (hw0 : ∀ n ∈ z0, (Lit.int .i64 n).wf = true) (w1 : (Lit.int .u8 a1).wf = true) :
    Calls Tryd.prog 6 #[.slice a0 len0 cap0, .int .u8 a1] w fun e w' => e = .returned (.bool true) ∧ Below w.heap.size w w' := by
  have hat := bounds_u8 w1
  have HA : Hid (∀ W, Hid (Bw w W) → Calls Tryd.prog 8 #[] W (On w (.bool true))) := Lib.hid fun W hW => on_says hW (awake_any W (hL.bw hW.out))
  have K0 : Hid (Bw w w) := Lib.hid (Bw.refl w)
  by_cases hbig : 60 < len0
  · have g1 : (60 : Int) < (len0 : Int) := by omega
    clear hL hl0 hc0 hx0 hs0 hw0 w1 hat
    go_enter Tryd.func6, Tryd.ntmps6
    go_wp2_with (go_at_call 8; refine (HA.out _ K0).mono ?_; rintro e w1 ⟨rfl, K1⟩)
    go_ret
    exact ⟨rfl, K1.out⟩
  · by_cases hz : len0 = 0
    · subst hz
      clear hL hl0 hc0 hx0 hs0 hw0 w1 hat
      go_enter Tryd.func6, Tryd.ntmps6
      go_wp2_with (go_at_call 8; refine (HA.out _ K0).mono ?_; rintro e w1 ⟨rfl, K1⟩)
      go_ret
      exact ⟨rfl, K1.out⟩
    · have g1 : ¬ (60 : Int) < (len0 : Int) := by omega
      have g2 : ((len0 : Int) == 0) = false := by simp; omega
      have g3 : ¬ (len0 : Int) = 0 := by omega
      have h60 : len0 ≤ 60 := by omega
      have hmx : len0 ≤ maxLen := Nat.le_trans hc0 hx0
      obtain ⟨i0, hi, hq0, hq1, hq2⟩ := info_parts info_int
      obtain ⟨f, hf⟩ : ∃ f, ft z0 = f := ⟨_, rfl⟩
      have H1 : Hid (∀ W, Hid (Bw w W) → Calls Tryd.prog 13 #[.slice a0 len0 cap0] W (On w (.bool f))) := Lib.hid fun W hW => on_says hW (hf ▸ Fits_any z0 a0 len0 cap0 W hl0 hmx (sees_bw hs0 hW.out))
      have H2 : Hid (∀ W, Hid (Bw w W) → Calls Tryd.prog 15 #[.slice a0 len0 cap0, .slice a0 len0 cap0] W (On w (.bool f))) := Lib.hid fun W hW => by
        have := Follows_any z0 z0 a0 a0 len0 cap0 len0 cap0 W (hL.bw hW.out) hl0 hl0 hmx hmx (sees_bw hs0 hW.out) (sees_bw hs0 hW.out)
        rw [fo_self, hf] at this
        exact on_says hW this
      obtain ⟨q, hq⟩ : ∃ q : Nat, a1.toNat % len0 = q := ⟨_, rfl⟩
      have hql : q < len0 := by rw [← hq]; exact Nat.mod_lt _ (by omega)
      obtain ⟨L, hLn⟩ : ∃ L : Int, (len0 : Int) = L := ⟨_, rfl⟩
      have t1 : a1.tmod (len0 : Int) = (q : Int) := by
        rw [Int.tmod_eq_emod_of_nonneg hat.1, ← hq, Int.natCast_emod, Int.toNat_of_nonneg hat.1]
      have t2 : IntKind.i64.wrap (q : Int) = (q : Int) := IntWalk.i64_in _ (by omega)
      have t3 : IntKind.i64.wrap a1 = a1 := IntWalk.i64_in _ (by omega)
      have t4 : (q : Int) < (len0 : Int) := by omega
      have kf : (f != f) = false := by simp
      have kf2 : (f == f) = true := by simp
      have HLay := Lib.hid hL
      have HL0 := Lib.hid hl0
      have HS0 := Lib.hid hs0
      have HF := Lib.hid hf
      have HQ := Lib.hid hql
      clear hL hl0 hx0 hs0 hw0 w1 hat hbig hz hf hq hLn
      cases f
      · go_enter Tryd.func6, Tryd.ntmps6
        go_wp2_with (first
          | (go_at_call 8; refine (HA.out _ K0).mono ?_; rintro e w1 ⟨rfl, K1⟩)
          | (go_at_call 13; ((with_reducible refine (H1.out _ K1).mono ?_); clear H1; rintro e w2 ⟨rfl, K2⟩))
          | (go_at_call 15; ((with_reducible refine (H2.out _ K2).mono ?_); clear H2; rintro e w3 ⟨rfl, K3⟩))
          | (at_builtin
             refine wpList_append_sees _ rfl (.tmp 26) (.tmp 27) 22 rfl w3.heap.size 3 i0 (.int .i64 0) 8 Tryd.underlying22 hi hq0 hq1 hq2 rfl (.slice none 0 0) 0 [] rfl (World.ownsRow_nil _ _ _ _) w3.heap.size a0 len0 cap0 (nums .i64 z0) rfl (by rw [nums_length]; exact HL0.out) (sees_bw HS0.out K3.out) (nums_one _ _) (by unfold maxLen; omega) (by omega) (Nat.le_refl _) ?_
             intro v4 w4 hown hg4
             rw [Nat.zero_add, List.nil_append] at hown
             obtain ⟨g, C, rfl⟩ := own_some hown (by omega)
             have K4 := Lib.hid (K3.out.next (hg4.below (Nat.le_refl _) (fun g hg => by cases hg)))
             have hfz := hown.frozenAt q
             have hcl := hown.cellAt q (by omega)
             have K5 : Hid (Bw w (w4.setCell ⟨g, q, none⟩ (.int .i64 5))) := Lib.hid (below_set (Nat.le_trans K3.out.size (hown.lt g rfl).1) K4.out)
             have hcl' : w4.cell? ⟨g, q, none⟩ = some (.int .i64 (z0[q]?.getD 0)) := by rw [hcl, nums_at .i64 z0 q (by rw [HL0.out]; omega)]
             generalize z0[q]?.getD 0 = old at *
             clear hown hg4 K4 hcl))
        go_ret
        exact ⟨rfl, K5.out⟩
      · have HO := Lib.hid (ft_out HF.out q)
        have HFo := Lib.hid (fo_out HF.out q)
        have HAc := Lib.hid (ac_out HF.out q)
        go_enter Tryd.func6, Tryd.ntmps6
        go_wp2_with (first
          | (go_at_call 8; refine (HA.out _ K0).mono ?_; rintro e w1 ⟨rfl, K1⟩)
          | (go_at_call 13; ((with_reducible refine (H1.out _ K1).mono ?_); clear H1; rintro e w2 ⟨rfl, K2⟩))
          | (go_at_call 15; ((with_reducible refine (H2.out _ K2).mono ?_); clear H2; rintro e w3 ⟨rfl, K3⟩))
          | (at_builtin
             refine wpList_append_sees _ rfl (.tmp 26) (.tmp 27) 22 rfl w3.heap.size 3 i0 (.int .i64 0) 8 Tryd.underlying22 hi hq0 hq1 hq2 rfl (.slice none 0 0) 0 [] rfl (World.ownsRow_nil _ _ _ _) w3.heap.size a0 len0 cap0 (nums .i64 z0) rfl (by rw [nums_length]; exact HL0.out) (sees_bw HS0.out K3.out) (nums_one _ _) (by unfold maxLen; omega) (by omega) (Nat.le_refl _) ?_
             intro v4 w4 hown hg4
             rw [Nat.zero_add, List.nil_append] at hown
             obtain ⟨g, C, rfl⟩ := own_some hown (by omega)
             have K4 := Lib.hid (K3.out.next (hg4.below (Nat.le_refl _) (fun g hg => by cases hg)))
             have hfz := hown.frozenAt q
             have hcl := hown.cellAt q (by omega)
             have K5 : Hid (Bw w (w4.setCell ⟨g, q, none⟩ (.int .i64 5))) := Lib.hid (below_set (Nat.le_trans K3.out.size (hown.lt g rfl).1) K4.out)
             have hcl' : w4.cell? ⟨g, q, none⟩ = some (.int .i64 (z0[q]?.getD 0)) := by rw [hcl, nums_at .i64 z0 q (by rw [HL0.out]; omega)]
             have hst := (hown.stored q (.int .i64 5)).1
             have hsee : Hid (Sees (w4.setCell ⟨g, q, none⟩ (.int .i64 5)) (w4.setCell ⟨g, q, none⟩ (.int .i64 5)).heap.size (some ⟨g, 0, none⟩) (nums .i64 (z0.set q 5))) := Lib.hid (by
               have := Sees.own hst
               rwa [show (nums .i64 z0).set q (.int .i64 5) = nums .i64 (z0.set q 5) by simp [nums, List.map_set]] at this)
             have HC : Hid (same_calls w (w4.setCell ⟨g, q, none⟩ (.int .i64 5)) g a0 len0 cap0 C) := Lib.hid (same_laid HLay.out K5.out HL0.out (by omega) HS0.out hsee.out HO.out HFo.out HAc.out)
             generalize z0[q]?.getD 0 = old at *
             clear hown hg4 K4 hcl hst hsee)
          | (go_at_call 13; go_must (refine (HC.out.fits).mono ?_; clear hfz hcl'; rintro e w6 ⟨rfl, K6⟩))
          | (go_at_call 15; go_must (refine (HC.out.follows _ K6).mono ?_; rintro e w7 ⟨rfl, K7⟩))
          | (go_at_call 17; go_must (refine (HC.out.accept _ K7).mono ?_; rintro e w8 ⟨rfl, K8⟩)))
        go_ret
        exact ⟨rfl, K5.out.next K8.out⟩
end Go.Proofs.YtdmihhjbbodjoaaDoor.Walk
