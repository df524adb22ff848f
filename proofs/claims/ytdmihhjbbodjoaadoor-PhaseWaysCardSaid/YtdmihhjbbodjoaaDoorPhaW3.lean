/- The walk of PhaseWays. -/
import Derived.Test.YtdmihhjbbodjoaaDoorPhaF
import Derived.OpenShut
namespace Go.Proofs.YtdmihhjbbodjoaaDoor.Walk
open Go.RowKit Go.ChangeShapes Go.Proofs.YtdmihhjbbodjoaaDoor.Plain Go.Proofs.YtdmihhjbbodjoaaDoor.PhaP Go.Proofs.YtdmihhjbbodjoaaDoor.Pha Go.Proofs.YtdmihhjbbodjoaaDoor.Box Go.Proofs.YtdmihhjbbodjoaaDoor.Held Go.Proofs.YtdmihhjbbodjoaaDoor.Sees Go.Proofs.YtdmihhjbbodjoaaDoor.Open
set_option linter.unusedVariables false

/-- recalled, parked, or serving -/
def rc (y : Int) : Bool := y == 2 || y == 3 || y == 4
theorem rc_of {x y : Int} (h : my y x = true) (hx : x = 3 ∨ x = 4) : rc y = true := by
  have hy := kn_six (my_kn h).1
  rcases hx with rfl | rfl
  all_goals
    rcases hy with rfl | rfl | rfl | rfl | rfl | rfl
    all_goals first | rfl | (exfalso; revert h; decide)

set_option maxRecDepth 100000 in
set_option maxHeartbeats 12800000 in
theorem phaseWays_walk (w : World) (hL : Lay w) (a0 : Option Addr) (len0 cap0 : Nat) (z0 : List Int)
    (hl0 : z0.length = len0) (hc0 : len0 ≤ cap0) (hx0 : cap0 ≤ maxLen) (hs0 : Sees w w.heap.size a0 (nums .i64 z0)) (hw0 : ∀ n ∈ z0, (Lit.int .i64 n).wf = true) :
    Calls Tryd.prog 5 #[.slice a0 len0 cap0] w fun e w' => e = .returned (.bool true) ∧ Below w.heap.size w w' := by
  have HA : Hid (∀ W, Hid (Bw w W) → Calls Tryd.prog 8 #[] W (On w (.bool true))) := Lib.hid fun W hW => on_says hW (awake_any W (hL.bw hW.out))
  have K0 : Hid (Bw w w) := Lib.hid (Bw.refl w)
  have HM : Hid (∀ a b v W, my a b = v → Bw w W → Calls Tryd.prog 11 #[.int .i64 a, .int .i64 b] W (Says W (.bool v))) := Lib.hid fun a b v W hv hW => says_of_same (hv ▸ May_any a b W (hL.bw hW))
  by_cases hbig : 200 < len0
  · have g1 : (200 : Int) < (len0 : Int) := by omega
    clear hL hl0 hc0 hx0 hs0 hw0
    go_enter Tryd.func5, Tryd.ntmps5
    go_wp2_with (go_at_call 8; refine (HA.out _ K0).mono ?_; rintro e w1 ⟨rfl, K1⟩)
    go_ret
    exact ⟨rfl, K1.out⟩
  · have g1 : ¬ (200 : Int) < (len0 : Int) := by omega
    have HLn := Lib.hid (by omega : len0 ≤ 200)
    have HS := Lib.hid hs0
    have HL := Lib.hid hl0
    clear hL hl0 hc0 hx0 hs0 hw0
    go_enter Tryd.func5, Tryd.ntmps5
    go_wp2_with (go_at_call 8; refine (HA.out _ K0).mono ?_; rintro e w1 ⟨rfl, K1⟩)
    go_loopw [4, 5] (fun a c wr => ∃ (i : Nat) (R : Bool), c = .int .i64 i ∧ a = .bool R ∧ i ≤ len0 ∧ Hid (Bw w wr) ∧ Hid (∀ (j : Nat) (y : Int), j + 1 = i → z0[j]? = some y → R = rc y)) (fun _ c _ => len0 - (intOf c).toNat)
    case atStart => exact ⟨0, false, rfl, rfl, Nat.zero_le _, K1, Lib.hid fun j y hj => by omega⟩
    case round =>
      clear K0 K1 HA
      obtain ⟨i, R, rfl, rfl, hi, K, hQ⟩ := hrel
      by_cases hlt : i < len0
      · obtain ⟨x, hx⟩ : ∃ x, z0[i]? = some x := ⟨_, List.getElem?_eq_getElem (by rw [HL.out]; omega)⟩
        obtain ⟨b, o, rfl, hb, hcw⟩ := HS.out.at_ (k := i) (u := .int .i64 x) (by simp [nums, hx])
        have hc := (K.out.cell (p := ⟨b, o + i, none⟩) hb).trans hcw
        have HX := Lib.hid hx
        have i1 : (i : Int) < (len0 : Int) := by omega
        have e3 : IntKind.i64.wrap ((i : Int) + 1) = ((i + 1 : Nat) : Int) := by rw [IntWalk.i64_in _ (by have := HLn.out; omega)]; rfl
        have hlr : b < wr.heap.size := Nat.lt_of_lt_of_le hb K.out.size
        have hjS : Hid (JS wr [] wr) := Lib.hid (J.start wr)
        have tri : Hid (((i : Int) == 0) = true ∨ ((i : Int) == 0) = false ∧ ∃ (j : Nat) (y : Int), j + 1 = i ∧ z0[j]? = some y ∧ w.cell? ⟨b, o + j, none⟩ = some (.int .i64 y)) := Lib.hid (by
          by_cases h0 : i = 0
          · exact .inl (by simp [h0])
          · obtain ⟨y, hy⟩ : ∃ y, z0[i - 1]? = some y := ⟨_, List.getElem?_eq_getElem (by rw [HL.out]; omega)⟩
            obtain ⟨b2, o2, hab, hb2, hcw2⟩ := HS.out.at_ (k := i - 1) (u := .int .i64 y) (by simp [nums, hy])
            have hab' := Option.some.inj hab
            injection hab' with hb' ho'
            subst hb' ho'
            exact .inr ⟨by simp; omega, i - 1, y, by omega, hy, hcw2⟩)
        clear hx
        cases hk : kn x
        · have := kn_no.1 hk
          by_cases h0 : x < 0
          · clear hk this
            go_wp2
            try rw [Exit.noGoto_ret]
            go_ret
            exact ⟨rfl, K.out⟩
          · have h1 : 5 < x := by omega
            clear hk this
            go_wp2
            try rw [Exit.noGoto_ret]
            go_ret
            exact ⟨rfl, K.out⟩
        · have HCW := Lib.hid (And.intro hb hcw)
          clear hb hcw
          rcases kn_six hk with rfl | rfl | rfl | rfl | rfl | rfl
          · clear hk
            go_wp2
            refine wp_region_all _ JS.closed hjS.out (by kernel_rfl) (by kernel_rfl) ?_
            apply Exists.intro
            refine ⟨fun w3 h3 => ?_, fun W3 hJ3 hb3 => ?_⟩
            · haveI := Ext.some h3
              have q0 := ext_old h3 (a := ⟨b, o + i, none⟩) hlr hc
              have c1 := Lib.hid (Ext.calls h3 JS.closed (fun W hW => HM.out 0 5 true W (by decide) (K.out.next (J.below hW))))
              have c2 := Lib.hid (Ext.calls h3 JS.closed (fun W hW => HM.out 0 0 true W (by decide) (K.out.next (J.below hW))))
              have c3 := Lib.hid (Ext.calls h3 JS.closed (fun W hW => HM.out 5 0 true W (by decide) (K.out.next (J.below hW))))
              repeat go_big_quiet_step (first | (go_at_call 11; with_reducible exact c1.out _) | (go_at_call 11; with_reducible exact c2.out _) | (go_at_call 11; with_reducible exact c3.out _))
              exact wpQuiet_nil rfl
            · have K3 := Lib.hid (K.out.next (J.below hJ3))
              have hc3 := (K3.out.cell (p := ⟨b, o + i, none⟩) HCW.out.1).trans HCW.out.2
              have hl3 : b < W3.heap.size := Nat.lt_of_lt_of_le HCW.out.1 K3.out.size
              have hjS3 : Hid (JS W3 [] W3) := Lib.hid (J.start W3)
              clear hJ3 hb3 hc hlr hjS
              have ways : ((i : Int) == 0) = true ∨ ((i : Int) == 0) = false ∧ ∃ (j : Nat) (y : Int), j + 1 = i ∧ z0[j]? = some y ∧ w.cell? ⟨b, o + j, none⟩ = some (.int .i64 y) := tri.out
              clear tri
              rcases ways with k0 | ⟨k0, j, y, hj, hy, hcy⟩
              · go_wp2
                refine wp_region_all _ JS.closed hjS3.out (by kernel_rfl) (by kernel_rfl) ?_
                apply Exists.intro
                refine ⟨fun w5 h5 => ?_, fun W5 hJ5 hb5 => ?_⟩
                · haveI := Ext.some h5
                  have q0 := ext_old h5 (a := ⟨b, o + i, none⟩) hl3 hc3
                  repeat go_big_quiet_step (fail)
                  exact wpQuiet_nil rfl
                · have K5 := Lib.hid (K3.out.next (J.below hJ5))
                  have hc5 := (K5.out.cell (p := ⟨b, o + i, none⟩) HCW.out.1).trans HCW.out.2
                  clear hJ5 hb5 hc3 hl3 hjS3
                  go_wp2
                  go_roundw
                  case rel => exact ⟨i + 1, false, rfl, rfl, by omega, K5, Lib.hid fun j y hj hy => by
                    obtain rfl : j = i := by omega
                    obtain rfl := Option.some.inj (HX.out.symm.trans hy)
                    rfl⟩
                  case measure => simp [intOf]; omega
              · have hcy3 := (K3.out.cell (p := ⟨b, o + j, none⟩) HCW.out.1).trans hcy
                have e4 : IntKind.i64.wrap ((i : Int) - 1) = (j : Int) := by rw [IntWalk.i64_in _ (by have := HLn.out; omega)]; omega
                have i3 : (j : Int) < (len0 : Int) := by omega
                have i4 : j < len0 := by omega
                have HR := Lib.hid (hQ.out j y hj hy)
                clear hcy hj hy
                cases hm : my y 0
                · have HMy := Lib.hid (fun W hW => HM.out y 0 false W hm hW)
                  clear hm
                  go_wp2
                  refine wp_region_all _ JS.closed hjS3.out (by kernel_rfl) (by kernel_rfl) ?_
                  apply Exists.intro
                  refine ⟨fun w5 h5 => ?_, fun W5 hJ5 hb5 => ?_⟩
                  · haveI := Ext.some h5
                    have q0 := ext_old h5 (a := ⟨b, o + i, none⟩) hl3 hc3
                    have q1 := ext_old h5 (a := ⟨b, o + j, none⟩) hl3 hcy3
                    have c1 := Lib.hid (Ext.calls h5 JS.closed (fun W hW => HMy.out W (K3.out.next (J.below hW))))
                    repeat go_big_quiet_step (first | (go_at_call 11; with_reducible exact c1.out _))
                    exact wpQuiet_nil rfl
                  · have K5 := Lib.hid (K3.out.next (J.below hJ5))
                    have hc5 := (K5.out.cell (p := ⟨b, o + i, none⟩) HCW.out.1).trans HCW.out.2
                    clear hJ5 hb5 hc3 hl3 hjS3 hcy3
                    go_wp2
                    go_roundw
                    case rel => exact ⟨i + 1, false, rfl, rfl, by omega, K5, Lib.hid fun j y hj hy => by
                      obtain rfl : j = i := by omega
                      obtain rfl := Option.some.inj (HX.out.symm.trans hy)
                      rfl⟩
                    case measure => simp [intOf]; omega
                · have HMy := Lib.hid (fun W hW => HM.out y 0 true W hm hW)
                  clear hm
                  go_wp2
                  refine wp_region_all _ JS.closed hjS3.out (by kernel_rfl) (by kernel_rfl) ?_
                  apply Exists.intro
                  refine ⟨fun w5 h5 => ?_, fun W5 hJ5 hb5 => ?_⟩
                  · haveI := Ext.some h5
                    have q0 := ext_old h5 (a := ⟨b, o + i, none⟩) hl3 hc3
                    have q1 := ext_old h5 (a := ⟨b, o + j, none⟩) hl3 hcy3
                    have c1 := Lib.hid (Ext.calls h5 JS.closed (fun W hW => HMy.out W (K3.out.next (J.below hW))))
                    repeat go_big_quiet_step (first | (go_at_call 11; with_reducible exact c1.out _))
                    exact wpQuiet_nil rfl
                  · have K5 := Lib.hid (K3.out.next (J.below hJ5))
                    have hc5 := (K5.out.cell (p := ⟨b, o + i, none⟩) HCW.out.1).trans HCW.out.2
                    clear hJ5 hb5 hc3 hl3 hjS3 hcy3
                    go_wp2
                    go_roundw
                    case rel => exact ⟨i + 1, false, rfl, rfl, by omega, K5, Lib.hid fun j y hj hy => by
                      obtain rfl : j = i := by omega
                      obtain rfl := Option.some.inj (HX.out.symm.trans hy)
                      rfl⟩
                    case measure => simp [intOf]; omega
          · clear hk
            go_wp2
            refine wp_region_all _ JS.closed hjS.out (by kernel_rfl) (by kernel_rfl) ?_
            apply Exists.intro
            refine ⟨fun w3 h3 => ?_, fun W3 hJ3 hb3 => ?_⟩
            · haveI := Ext.some h3
              have q0 := ext_old h3 (a := ⟨b, o + i, none⟩) hlr hc
              have c1 := Lib.hid (Ext.calls h3 JS.closed (fun W hW => HM.out 1 5 true W (by decide) (K.out.next (J.below hW))))
              have c2 := Lib.hid (Ext.calls h3 JS.closed (fun W hW => HM.out 1 1 true W (by decide) (K.out.next (J.below hW))))
              have c3 := Lib.hid (Ext.calls h3 JS.closed (fun W hW => HM.out 5 1 true W (by decide) (K.out.next (J.below hW))))
              repeat go_big_quiet_step (first | (go_at_call 11; with_reducible exact c1.out _) | (go_at_call 11; with_reducible exact c2.out _) | (go_at_call 11; with_reducible exact c3.out _))
              exact wpQuiet_nil rfl
            · have K3 := Lib.hid (K.out.next (J.below hJ3))
              have hc3 := (K3.out.cell (p := ⟨b, o + i, none⟩) HCW.out.1).trans HCW.out.2
              have hl3 : b < W3.heap.size := Nat.lt_of_lt_of_le HCW.out.1 K3.out.size
              have hjS3 : Hid (JS W3 [] W3) := Lib.hid (J.start W3)
              clear hJ3 hb3 hc hlr hjS
              have ways : ((i : Int) == 0) = true ∨ ((i : Int) == 0) = false ∧ ∃ (j : Nat) (y : Int), j + 1 = i ∧ z0[j]? = some y ∧ w.cell? ⟨b, o + j, none⟩ = some (.int .i64 y) := tri.out
              clear tri
              rcases ways with k0 | ⟨k0, j, y, hj, hy, hcy⟩
              · go_wp2
                refine wp_region_all _ JS.closed hjS3.out (by kernel_rfl) (by kernel_rfl) ?_
                apply Exists.intro
                refine ⟨fun w5 h5 => ?_, fun W5 hJ5 hb5 => ?_⟩
                · haveI := Ext.some h5
                  have q0 := ext_old h5 (a := ⟨b, o + i, none⟩) hl3 hc3
                  repeat go_big_quiet_step (fail)
                  exact wpQuiet_nil rfl
                · have K5 := Lib.hid (K3.out.next (J.below hJ5))
                  have hc5 := (K5.out.cell (p := ⟨b, o + i, none⟩) HCW.out.1).trans HCW.out.2
                  clear hJ5 hb5 hc3 hl3 hjS3
                  go_wp2
                  go_roundw
                  case rel => exact ⟨i + 1, false, rfl, rfl, by omega, K5, Lib.hid fun j y hj hy => by
                    obtain rfl : j = i := by omega
                    obtain rfl := Option.some.inj (HX.out.symm.trans hy)
                    rfl⟩
                  case measure => simp [intOf]; omega
              · have hcy3 := (K3.out.cell (p := ⟨b, o + j, none⟩) HCW.out.1).trans hcy
                have e4 : IntKind.i64.wrap ((i : Int) - 1) = (j : Int) := by rw [IntWalk.i64_in _ (by have := HLn.out; omega)]; omega
                have i3 : (j : Int) < (len0 : Int) := by omega
                have i4 : j < len0 := by omega
                have HR := Lib.hid (hQ.out j y hj hy)
                clear hcy hj hy
                cases hm : my y 1
                · have HMy := Lib.hid (fun W hW => HM.out y 1 false W hm hW)
                  clear hm
                  go_wp2
                  refine wp_region_all _ JS.closed hjS3.out (by kernel_rfl) (by kernel_rfl) ?_
                  apply Exists.intro
                  refine ⟨fun w5 h5 => ?_, fun W5 hJ5 hb5 => ?_⟩
                  · haveI := Ext.some h5
                    have q0 := ext_old h5 (a := ⟨b, o + i, none⟩) hl3 hc3
                    have q1 := ext_old h5 (a := ⟨b, o + j, none⟩) hl3 hcy3
                    have c1 := Lib.hid (Ext.calls h5 JS.closed (fun W hW => HMy.out W (K3.out.next (J.below hW))))
                    repeat go_big_quiet_step (first | (go_at_call 11; with_reducible exact c1.out _))
                    exact wpQuiet_nil rfl
                  · have K5 := Lib.hid (K3.out.next (J.below hJ5))
                    have hc5 := (K5.out.cell (p := ⟨b, o + i, none⟩) HCW.out.1).trans HCW.out.2
                    clear hJ5 hb5 hc3 hl3 hjS3 hcy3
                    go_wp2
                    go_roundw
                    case rel => exact ⟨i + 1, false, rfl, rfl, by omega, K5, Lib.hid fun j y hj hy => by
                      obtain rfl : j = i := by omega
                      obtain rfl := Option.some.inj (HX.out.symm.trans hy)
                      rfl⟩
                    case measure => simp [intOf]; omega
                · have HMy := Lib.hid (fun W hW => HM.out y 1 true W hm hW)
                  clear hm
                  go_wp2
                  refine wp_region_all _ JS.closed hjS3.out (by kernel_rfl) (by kernel_rfl) ?_
                  apply Exists.intro
                  refine ⟨fun w5 h5 => ?_, fun W5 hJ5 hb5 => ?_⟩
                  · haveI := Ext.some h5
                    have q0 := ext_old h5 (a := ⟨b, o + i, none⟩) hl3 hc3
                    have q1 := ext_old h5 (a := ⟨b, o + j, none⟩) hl3 hcy3
                    have c1 := Lib.hid (Ext.calls h5 JS.closed (fun W hW => HMy.out W (K3.out.next (J.below hW))))
                    repeat go_big_quiet_step (first | (go_at_call 11; with_reducible exact c1.out _))
                    exact wpQuiet_nil rfl
                  · have K5 := Lib.hid (K3.out.next (J.below hJ5))
                    have hc5 := (K5.out.cell (p := ⟨b, o + i, none⟩) HCW.out.1).trans HCW.out.2
                    clear hJ5 hb5 hc3 hl3 hjS3 hcy3
                    go_wp2
                    go_roundw
                    case rel => exact ⟨i + 1, false, rfl, rfl, by omega, K5, Lib.hid fun j y hj hy => by
                      obtain rfl : j = i := by omega
                      obtain rfl := Option.some.inj (HX.out.symm.trans hy)
                      rfl⟩
                    case measure => simp [intOf]; omega
          · clear hk
            go_wp2
            refine wp_region_all _ JS.closed hjS.out (by kernel_rfl) (by kernel_rfl) ?_
            apply Exists.intro
            refine ⟨fun w3 h3 => ?_, fun W3 hJ3 hb3 => ?_⟩
            · haveI := Ext.some h3
              have q0 := ext_old h3 (a := ⟨b, o + i, none⟩) hlr hc
              have c1 := Lib.hid (Ext.calls h3 JS.closed (fun W hW => HM.out 2 5 true W (by decide) (K.out.next (J.below hW))))
              have c2 := Lib.hid (Ext.calls h3 JS.closed (fun W hW => HM.out 2 2 true W (by decide) (K.out.next (J.below hW))))
              have c3 := Lib.hid (Ext.calls h3 JS.closed (fun W hW => HM.out 5 2 false W (by decide) (K.out.next (J.below hW))))
              repeat go_big_quiet_step (first | (go_at_call 11; with_reducible exact c1.out _) | (go_at_call 11; with_reducible exact c2.out _) | (go_at_call 11; with_reducible exact c3.out _))
              exact wpQuiet_nil rfl
            · have K3 := Lib.hid (K.out.next (J.below hJ3))
              have hc3 := (K3.out.cell (p := ⟨b, o + i, none⟩) HCW.out.1).trans HCW.out.2
              have hl3 : b < W3.heap.size := Nat.lt_of_lt_of_le HCW.out.1 K3.out.size
              have hjS3 : Hid (JS W3 [] W3) := Lib.hid (J.start W3)
              clear hJ3 hb3 hc hlr hjS
              have ways : ((i : Int) == 0) = true ∨ ((i : Int) == 0) = false ∧ ∃ (j : Nat) (y : Int), j + 1 = i ∧ z0[j]? = some y ∧ w.cell? ⟨b, o + j, none⟩ = some (.int .i64 y) := tri.out
              clear tri
              rcases ways with k0 | ⟨k0, j, y, hj, hy, hcy⟩
              · go_wp2
                refine wp_region_all _ JS.closed hjS3.out (by kernel_rfl) (by kernel_rfl) ?_
                apply Exists.intro
                refine ⟨fun w5 h5 => ?_, fun W5 hJ5 hb5 => ?_⟩
                · haveI := Ext.some h5
                  have q0 := ext_old h5 (a := ⟨b, o + i, none⟩) hl3 hc3
                  repeat go_big_quiet_step (fail)
                  exact wpQuiet_nil rfl
                · have K5 := Lib.hid (K3.out.next (J.below hJ5))
                  have hc5 := (K5.out.cell (p := ⟨b, o + i, none⟩) HCW.out.1).trans HCW.out.2
                  clear hJ5 hb5 hc3 hl3 hjS3
                  go_wp2
                  go_roundw
                  case rel => exact ⟨i + 1, true, rfl, rfl, by omega, K5, Lib.hid fun j y hj hy => by
                    obtain rfl : j = i := by omega
                    obtain rfl := Option.some.inj (HX.out.symm.trans hy)
                    rfl⟩
                  case measure => simp [intOf]; omega
              · have hcy3 := (K3.out.cell (p := ⟨b, o + j, none⟩) HCW.out.1).trans hcy
                have e4 : IntKind.i64.wrap ((i : Int) - 1) = (j : Int) := by rw [IntWalk.i64_in _ (by have := HLn.out; omega)]; omega
                have i3 : (j : Int) < (len0 : Int) := by omega
                have i4 : j < len0 := by omega
                have HR := Lib.hid (hQ.out j y hj hy)
                clear hcy hj hy
                cases hm : my y 2
                · have HMy := Lib.hid (fun W hW => HM.out y 2 false W hm hW)
                  clear hm
                  go_wp2
                  refine wp_region_all _ JS.closed hjS3.out (by kernel_rfl) (by kernel_rfl) ?_
                  apply Exists.intro
                  refine ⟨fun w5 h5 => ?_, fun W5 hJ5 hb5 => ?_⟩
                  · haveI := Ext.some h5
                    have q0 := ext_old h5 (a := ⟨b, o + i, none⟩) hl3 hc3
                    have q1 := ext_old h5 (a := ⟨b, o + j, none⟩) hl3 hcy3
                    have c1 := Lib.hid (Ext.calls h5 JS.closed (fun W hW => HMy.out W (K3.out.next (J.below hW))))
                    repeat go_big_quiet_step (first | (go_at_call 11; with_reducible exact c1.out _))
                    exact wpQuiet_nil rfl
                  · have K5 := Lib.hid (K3.out.next (J.below hJ5))
                    have hc5 := (K5.out.cell (p := ⟨b, o + i, none⟩) HCW.out.1).trans HCW.out.2
                    clear hJ5 hb5 hc3 hl3 hjS3 hcy3
                    go_wp2
                    go_roundw
                    case rel => exact ⟨i + 1, true, rfl, rfl, by omega, K5, Lib.hid fun j y hj hy => by
                      obtain rfl : j = i := by omega
                      obtain rfl := Option.some.inj (HX.out.symm.trans hy)
                      rfl⟩
                    case measure => simp [intOf]; omega
                · have HMy := Lib.hid (fun W hW => HM.out y 2 true W hm hW)
                  clear hm
                  go_wp2
                  refine wp_region_all _ JS.closed hjS3.out (by kernel_rfl) (by kernel_rfl) ?_
                  apply Exists.intro
                  refine ⟨fun w5 h5 => ?_, fun W5 hJ5 hb5 => ?_⟩
                  · haveI := Ext.some h5
                    have q0 := ext_old h5 (a := ⟨b, o + i, none⟩) hl3 hc3
                    have q1 := ext_old h5 (a := ⟨b, o + j, none⟩) hl3 hcy3
                    have c1 := Lib.hid (Ext.calls h5 JS.closed (fun W hW => HMy.out W (K3.out.next (J.below hW))))
                    repeat go_big_quiet_step (first | (go_at_call 11; with_reducible exact c1.out _))
                    exact wpQuiet_nil rfl
                  · have K5 := Lib.hid (K3.out.next (J.below hJ5))
                    have hc5 := (K5.out.cell (p := ⟨b, o + i, none⟩) HCW.out.1).trans HCW.out.2
                    clear hJ5 hb5 hc3 hl3 hjS3 hcy3
                    go_wp2
                    go_roundw
                    case rel => exact ⟨i + 1, true, rfl, rfl, by omega, K5, Lib.hid fun j y hj hy => by
                      obtain rfl : j = i := by omega
                      obtain rfl := Option.some.inj (HX.out.symm.trans hy)
                      rfl⟩
                    case measure => simp [intOf]; omega
          · clear hk
            go_wp2
            refine wp_region_all _ JS.closed hjS.out (by kernel_rfl) (by kernel_rfl) ?_
            apply Exists.intro
            refine ⟨fun w3 h3 => ?_, fun W3 hJ3 hb3 => ?_⟩
            · haveI := Ext.some h3
              have q0 := ext_old h3 (a := ⟨b, o + i, none⟩) hlr hc
              have c1 := Lib.hid (Ext.calls h3 JS.closed (fun W hW => HM.out 3 5 true W (by decide) (K.out.next (J.below hW))))
              have c2 := Lib.hid (Ext.calls h3 JS.closed (fun W hW => HM.out 3 3 true W (by decide) (K.out.next (J.below hW))))
              have c3 := Lib.hid (Ext.calls h3 JS.closed (fun W hW => HM.out 5 3 false W (by decide) (K.out.next (J.below hW))))
              repeat go_big_quiet_step (first | (go_at_call 11; with_reducible exact c1.out _) | (go_at_call 11; with_reducible exact c2.out _) | (go_at_call 11; with_reducible exact c3.out _))
              exact wpQuiet_nil rfl
            · have K3 := Lib.hid (K.out.next (J.below hJ3))
              have hc3 := (K3.out.cell (p := ⟨b, o + i, none⟩) HCW.out.1).trans HCW.out.2
              have hl3 : b < W3.heap.size := Nat.lt_of_lt_of_le HCW.out.1 K3.out.size
              have hjS3 : Hid (JS W3 [] W3) := Lib.hid (J.start W3)
              clear hJ3 hb3 hc hlr hjS
              have ways : ((i : Int) == 0) = true ∨ ((i : Int) == 0) = false ∧ ∃ (j : Nat) (y : Int), j + 1 = i ∧ z0[j]? = some y ∧ w.cell? ⟨b, o + j, none⟩ = some (.int .i64 y) := tri.out
              clear tri
              rcases ways with k0 | ⟨k0, j, y, hj, hy, hcy⟩
              · go_wp2
                refine wp_region_all _ JS.closed hjS3.out (by kernel_rfl) (by kernel_rfl) ?_
                apply Exists.intro
                refine ⟨fun w5 h5 => ?_, fun W5 hJ5 hb5 => ?_⟩
                · haveI := Ext.some h5
                  have q0 := ext_old h5 (a := ⟨b, o + i, none⟩) hl3 hc3
                  repeat go_big_quiet_step (fail)
                  exact wpQuiet_nil rfl
                · have K5 := Lib.hid (K3.out.next (J.below hJ5))
                  have hc5 := (K5.out.cell (p := ⟨b, o + i, none⟩) HCW.out.1).trans HCW.out.2
                  clear hJ5 hb5 hc3 hl3 hjS3
                  go_wp2
                  go_roundw
                  case rel => exact ⟨i + 1, true, rfl, rfl, by omega, K5, Lib.hid fun j y hj hy => by
                    obtain rfl : j = i := by omega
                    obtain rfl := Option.some.inj (HX.out.symm.trans hy)
                    rfl⟩
                  case measure => simp [intOf]; omega
              · have hcy3 := (K3.out.cell (p := ⟨b, o + j, none⟩) HCW.out.1).trans hcy
                have e4 : IntKind.i64.wrap ((i : Int) - 1) = (j : Int) := by rw [IntWalk.i64_in _ (by have := HLn.out; omega)]; omega
                have i3 : (j : Int) < (len0 : Int) := by omega
                have i4 : j < len0 := by omega
                have HR := Lib.hid (hQ.out j y hj hy)
                clear hcy hj hy
                cases hm : my y 3
                · have HMy := Lib.hid (fun W hW => HM.out y 3 false W hm hW)
                  clear hm
                  go_wp2
                  refine wp_region_all _ JS.closed hjS3.out (by kernel_rfl) (by kernel_rfl) ?_
                  apply Exists.intro
                  refine ⟨fun w5 h5 => ?_, fun W5 hJ5 hb5 => ?_⟩
                  · haveI := Ext.some h5
                    have q0 := ext_old h5 (a := ⟨b, o + i, none⟩) hl3 hc3
                    have q1 := ext_old h5 (a := ⟨b, o + j, none⟩) hl3 hcy3
                    have c1 := Lib.hid (Ext.calls h5 JS.closed (fun W hW => HMy.out W (K3.out.next (J.below hW))))
                    repeat go_big_quiet_step (first | (go_at_call 11; with_reducible exact c1.out _))
                    exact wpQuiet_nil rfl
                  · have K5 := Lib.hid (K3.out.next (J.below hJ5))
                    have hc5 := (K5.out.cell (p := ⟨b, o + i, none⟩) HCW.out.1).trans HCW.out.2
                    clear hJ5 hb5 hc3 hl3 hjS3 hcy3
                    go_wp2
                    go_roundw
                    case rel => exact ⟨i + 1, true, rfl, rfl, by omega, K5, Lib.hid fun j y hj hy => by
                      obtain rfl : j = i := by omega
                      obtain rfl := Option.some.inj (HX.out.symm.trans hy)
                      rfl⟩
                    case measure => simp [intOf]; omega
                · obtain rfl : R = true := HR.out.trans (rc_of hm (by decide))
                  have HMy := Lib.hid (fun W hW => HM.out y 3 true W hm hW)
                  clear hm
                  go_wp2
                  refine wp_region_all _ JS.closed hjS3.out (by kernel_rfl) (by kernel_rfl) ?_
                  apply Exists.intro
                  refine ⟨fun w5 h5 => ?_, fun W5 hJ5 hb5 => ?_⟩
                  · haveI := Ext.some h5
                    have q0 := ext_old h5 (a := ⟨b, o + i, none⟩) hl3 hc3
                    have q1 := ext_old h5 (a := ⟨b, o + j, none⟩) hl3 hcy3
                    have c1 := Lib.hid (Ext.calls h5 JS.closed (fun W hW => HMy.out W (K3.out.next (J.below hW))))
                    repeat go_big_quiet_step (first | (go_at_call 11; with_reducible exact c1.out _))
                    exact wpQuiet_nil rfl
                  · have K5 := Lib.hid (K3.out.next (J.below hJ5))
                    have hc5 := (K5.out.cell (p := ⟨b, o + i, none⟩) HCW.out.1).trans HCW.out.2
                    clear hJ5 hb5 hc3 hl3 hjS3 hcy3
                    go_wp2
                    go_roundw
                    case rel => exact ⟨i + 1, true, rfl, rfl, by omega, K5, Lib.hid fun j y hj hy => by
                      obtain rfl : j = i := by omega
                      obtain rfl := Option.some.inj (HX.out.symm.trans hy)
                      rfl⟩
                    case measure => simp [intOf]; omega
          · clear hk
            go_wp2
            refine wp_region_all _ JS.closed hjS.out (by kernel_rfl) (by kernel_rfl) ?_
            apply Exists.intro
            refine ⟨fun w3 h3 => ?_, fun W3 hJ3 hb3 => ?_⟩
            · haveI := Ext.some h3
              have q0 := ext_old h3 (a := ⟨b, o + i, none⟩) hlr hc
              have c1 := Lib.hid (Ext.calls h3 JS.closed (fun W hW => HM.out 4 5 true W (by decide) (K.out.next (J.below hW))))
              have c2 := Lib.hid (Ext.calls h3 JS.closed (fun W hW => HM.out 4 4 true W (by decide) (K.out.next (J.below hW))))
              have c3 := Lib.hid (Ext.calls h3 JS.closed (fun W hW => HM.out 5 4 false W (by decide) (K.out.next (J.below hW))))
              repeat go_big_quiet_step (first | (go_at_call 11; with_reducible exact c1.out _) | (go_at_call 11; with_reducible exact c2.out _) | (go_at_call 11; with_reducible exact c3.out _))
              exact wpQuiet_nil rfl
            · have K3 := Lib.hid (K.out.next (J.below hJ3))
              have hc3 := (K3.out.cell (p := ⟨b, o + i, none⟩) HCW.out.1).trans HCW.out.2
              have hl3 : b < W3.heap.size := Nat.lt_of_lt_of_le HCW.out.1 K3.out.size
              have hjS3 : Hid (JS W3 [] W3) := Lib.hid (J.start W3)
              clear hJ3 hb3 hc hlr hjS
              have ways : ((i : Int) == 0) = true ∨ ((i : Int) == 0) = false ∧ ∃ (j : Nat) (y : Int), j + 1 = i ∧ z0[j]? = some y ∧ w.cell? ⟨b, o + j, none⟩ = some (.int .i64 y) := tri.out
              clear tri
              rcases ways with k0 | ⟨k0, j, y, hj, hy, hcy⟩
              · go_wp2
                refine wp_region_all _ JS.closed hjS3.out (by kernel_rfl) (by kernel_rfl) ?_
                apply Exists.intro
                refine ⟨fun w5 h5 => ?_, fun W5 hJ5 hb5 => ?_⟩
                · haveI := Ext.some h5
                  have q0 := ext_old h5 (a := ⟨b, o + i, none⟩) hl3 hc3
                  repeat go_big_quiet_step (fail)
                  exact wpQuiet_nil rfl
                · have K5 := Lib.hid (K3.out.next (J.below hJ5))
                  have hc5 := (K5.out.cell (p := ⟨b, o + i, none⟩) HCW.out.1).trans HCW.out.2
                  clear hJ5 hb5 hc3 hl3 hjS3
                  go_wp2
                  go_roundw
                  case rel => exact ⟨i + 1, true, rfl, rfl, by omega, K5, Lib.hid fun j y hj hy => by
                    obtain rfl : j = i := by omega
                    obtain rfl := Option.some.inj (HX.out.symm.trans hy)
                    rfl⟩
                  case measure => simp [intOf]; omega
              · have hcy3 := (K3.out.cell (p := ⟨b, o + j, none⟩) HCW.out.1).trans hcy
                have e4 : IntKind.i64.wrap ((i : Int) - 1) = (j : Int) := by rw [IntWalk.i64_in _ (by have := HLn.out; omega)]; omega
                have i3 : (j : Int) < (len0 : Int) := by omega
                have i4 : j < len0 := by omega
                have HR := Lib.hid (hQ.out j y hj hy)
                clear hcy hj hy
                cases hm : my y 4
                · have HMy := Lib.hid (fun W hW => HM.out y 4 false W hm hW)
                  clear hm
                  go_wp2
                  refine wp_region_all _ JS.closed hjS3.out (by kernel_rfl) (by kernel_rfl) ?_
                  apply Exists.intro
                  refine ⟨fun w5 h5 => ?_, fun W5 hJ5 hb5 => ?_⟩
                  · haveI := Ext.some h5
                    have q0 := ext_old h5 (a := ⟨b, o + i, none⟩) hl3 hc3
                    have q1 := ext_old h5 (a := ⟨b, o + j, none⟩) hl3 hcy3
                    have c1 := Lib.hid (Ext.calls h5 JS.closed (fun W hW => HMy.out W (K3.out.next (J.below hW))))
                    repeat go_big_quiet_step (first | (go_at_call 11; with_reducible exact c1.out _))
                    exact wpQuiet_nil rfl
                  · have K5 := Lib.hid (K3.out.next (J.below hJ5))
                    have hc5 := (K5.out.cell (p := ⟨b, o + i, none⟩) HCW.out.1).trans HCW.out.2
                    clear hJ5 hb5 hc3 hl3 hjS3 hcy3
                    go_wp2
                    go_roundw
                    case rel => exact ⟨i + 1, true, rfl, rfl, by omega, K5, Lib.hid fun j y hj hy => by
                      obtain rfl : j = i := by omega
                      obtain rfl := Option.some.inj (HX.out.symm.trans hy)
                      rfl⟩
                    case measure => simp [intOf]; omega
                · obtain rfl : R = true := HR.out.trans (rc_of hm (by decide))
                  have HMy := Lib.hid (fun W hW => HM.out y 4 true W hm hW)
                  clear hm
                  go_wp2
                  refine wp_region_all _ JS.closed hjS3.out (by kernel_rfl) (by kernel_rfl) ?_
                  apply Exists.intro
                  refine ⟨fun w5 h5 => ?_, fun W5 hJ5 hb5 => ?_⟩
                  · haveI := Ext.some h5
                    have q0 := ext_old h5 (a := ⟨b, o + i, none⟩) hl3 hc3
                    have q1 := ext_old h5 (a := ⟨b, o + j, none⟩) hl3 hcy3
                    have c1 := Lib.hid (Ext.calls h5 JS.closed (fun W hW => HMy.out W (K3.out.next (J.below hW))))
                    repeat go_big_quiet_step (first | (go_at_call 11; with_reducible exact c1.out _))
                    exact wpQuiet_nil rfl
                  · have K5 := Lib.hid (K3.out.next (J.below hJ5))
                    have hc5 := (K5.out.cell (p := ⟨b, o + i, none⟩) HCW.out.1).trans HCW.out.2
                    clear hJ5 hb5 hc3 hl3 hjS3 hcy3
                    go_wp2
                    go_roundw
                    case rel => exact ⟨i + 1, true, rfl, rfl, by omega, K5, Lib.hid fun j y hj hy => by
                      obtain rfl : j = i := by omega
                      obtain rfl := Option.some.inj (HX.out.symm.trans hy)
                      rfl⟩
                    case measure => simp [intOf]; omega
          · clear hk
            go_wp2
            refine wp_region_all _ JS.closed hjS.out (by kernel_rfl) (by kernel_rfl) ?_
            apply Exists.intro
            refine ⟨fun w3 h3 => ?_, fun W3 hJ3 hb3 => ?_⟩
            · haveI := Ext.some h3
              have q0 := ext_old h3 (a := ⟨b, o + i, none⟩) hlr hc
              have c1 := Lib.hid (Ext.calls h3 JS.closed (fun W hW => HM.out 5 5 true W (by decide) (K.out.next (J.below hW))))
              have c2 := Lib.hid (Ext.calls h3 JS.closed (fun W hW => HM.out 5 5 true W (by decide) (K.out.next (J.below hW))))
              have c3 := Lib.hid (Ext.calls h3 JS.closed (fun W hW => HM.out 5 5 true W (by decide) (K.out.next (J.below hW))))
              repeat go_big_quiet_step (first | (go_at_call 11; with_reducible exact c1.out _) | (go_at_call 11; with_reducible exact c2.out _) | (go_at_call 11; with_reducible exact c3.out _))
              exact wpQuiet_nil rfl
            · have K3 := Lib.hid (K.out.next (J.below hJ3))
              have hc3 := (K3.out.cell (p := ⟨b, o + i, none⟩) HCW.out.1).trans HCW.out.2
              have hl3 : b < W3.heap.size := Nat.lt_of_lt_of_le HCW.out.1 K3.out.size
              have hjS3 : Hid (JS W3 [] W3) := Lib.hid (J.start W3)
              clear hJ3 hb3 hc hlr hjS
              have ways : ((i : Int) == 0) = true ∨ ((i : Int) == 0) = false ∧ ∃ (j : Nat) (y : Int), j + 1 = i ∧ z0[j]? = some y ∧ w.cell? ⟨b, o + j, none⟩ = some (.int .i64 y) := tri.out
              clear tri
              rcases ways with k0 | ⟨k0, j, y, hj, hy, hcy⟩
              · go_wp2
                refine wp_region_all _ JS.closed hjS3.out (by kernel_rfl) (by kernel_rfl) ?_
                apply Exists.intro
                refine ⟨fun w5 h5 => ?_, fun W5 hJ5 hb5 => ?_⟩
                · haveI := Ext.some h5
                  have q0 := ext_old h5 (a := ⟨b, o + i, none⟩) hl3 hc3
                  repeat go_big_quiet_step (fail)
                  exact wpQuiet_nil rfl
                · have K5 := Lib.hid (K3.out.next (J.below hJ5))
                  have hc5 := (K5.out.cell (p := ⟨b, o + i, none⟩) HCW.out.1).trans HCW.out.2
                  clear hJ5 hb5 hc3 hl3 hjS3
                  go_wp2
                  go_roundw
                  case rel => exact ⟨i + 1, false, rfl, rfl, by omega, K5, Lib.hid fun j y hj hy => by
                    obtain rfl : j = i := by omega
                    obtain rfl := Option.some.inj (HX.out.symm.trans hy)
                    rfl⟩
                  case measure => simp [intOf]; omega
              · have hcy3 := (K3.out.cell (p := ⟨b, o + j, none⟩) HCW.out.1).trans hcy
                have e4 : IntKind.i64.wrap ((i : Int) - 1) = (j : Int) := by rw [IntWalk.i64_in _ (by have := HLn.out; omega)]; omega
                have i3 : (j : Int) < (len0 : Int) := by omega
                have i4 : j < len0 := by omega
                have HR := Lib.hid (hQ.out j y hj hy)
                clear hcy hj hy
                cases hm : my y 5
                · have HMy := Lib.hid (fun W hW => HM.out y 5 false W hm hW)
                  clear hm
                  go_wp2
                  refine wp_region_all _ JS.closed hjS3.out (by kernel_rfl) (by kernel_rfl) ?_
                  apply Exists.intro
                  refine ⟨fun w5 h5 => ?_, fun W5 hJ5 hb5 => ?_⟩
                  · haveI := Ext.some h5
                    have q0 := ext_old h5 (a := ⟨b, o + i, none⟩) hl3 hc3
                    have q1 := ext_old h5 (a := ⟨b, o + j, none⟩) hl3 hcy3
                    have c1 := Lib.hid (Ext.calls h5 JS.closed (fun W hW => HMy.out W (K3.out.next (J.below hW))))
                    repeat go_big_quiet_step (first | (go_at_call 11; with_reducible exact c1.out _))
                    exact wpQuiet_nil rfl
                  · have K5 := Lib.hid (K3.out.next (J.below hJ5))
                    have hc5 := (K5.out.cell (p := ⟨b, o + i, none⟩) HCW.out.1).trans HCW.out.2
                    clear hJ5 hb5 hc3 hl3 hjS3 hcy3
                    go_wp2
                    go_roundw
                    case rel => exact ⟨i + 1, false, rfl, rfl, by omega, K5, Lib.hid fun j y hj hy => by
                      obtain rfl : j = i := by omega
                      obtain rfl := Option.some.inj (HX.out.symm.trans hy)
                      rfl⟩
                    case measure => simp [intOf]; omega
                · have HMy := Lib.hid (fun W hW => HM.out y 5 true W hm hW)
                  clear hm
                  go_wp2
                  refine wp_region_all _ JS.closed hjS3.out (by kernel_rfl) (by kernel_rfl) ?_
                  apply Exists.intro
                  refine ⟨fun w5 h5 => ?_, fun W5 hJ5 hb5 => ?_⟩
                  · haveI := Ext.some h5
                    have q0 := ext_old h5 (a := ⟨b, o + i, none⟩) hl3 hc3
                    have q1 := ext_old h5 (a := ⟨b, o + j, none⟩) hl3 hcy3
                    have c1 := Lib.hid (Ext.calls h5 JS.closed (fun W hW => HMy.out W (K3.out.next (J.below hW))))
                    repeat go_big_quiet_step (first | (go_at_call 11; with_reducible exact c1.out _))
                    exact wpQuiet_nil rfl
                  · have K5 := Lib.hid (K3.out.next (J.below hJ5))
                    have hc5 := (K5.out.cell (p := ⟨b, o + i, none⟩) HCW.out.1).trans HCW.out.2
                    clear hJ5 hb5 hc3 hl3 hjS3 hcy3
                    go_wp2
                    go_roundw
                    case rel => exact ⟨i + 1, false, rfl, rfl, by omega, K5, Lib.hid fun j y hj hy => by
                      obtain rfl : j = i := by omega
                      obtain rfl := Option.some.inj (HX.out.symm.trans hy)
                      rfl⟩
                    case measure => simp [intOf]; omega
      · obtain rfl : i = len0 := by omega
        go_wp2
        go_ret
        exact ⟨rfl, K.out⟩
end Go.Proofs.YtdmihhjbbodjoaaDoor.Walk
