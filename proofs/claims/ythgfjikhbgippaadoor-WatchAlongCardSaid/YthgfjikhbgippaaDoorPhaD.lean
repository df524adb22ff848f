/- The contract of the reference's Follows. -/
import Derived.Test.YthgfjikhbgippaaDoorPhaC
namespace Go.Proofs.YthgfjikhbgippaaDoor.Pha
open Go.RowKit Go.Proofs.YthgfjikhbgippaaDoor.Plain Go.Proofs.YthgfjikhbgippaaDoor.PhaP Go.Proofs.YthgfjikhbgippaaDoor.Sees Go.Proofs.YthgfjikhbgippaaDoor.Box Go.Proofs.YthgfjikhbgippaaDoor.Held
set_option linter.unusedVariables false
set_option maxRecDepth 100000

set_option maxHeartbeats 3200000 in
theorem rFollows_any (l m : List Int) (A B : Option Addr) (n c k d : Nat) (w : World) (hl : l.length = n) (hm : m.length = k) (hn : n ≤ 1000) (hk : k ≤ 1000)
    (hs : Sees w w.heap.size A (nums .i64 l)) (ht : Sees w w.heap.size B (nums .i64 m)) : Calls Tryd.prog 20 #[.slice A n c, .slice B k d] w (Says w (.bool (fo l m))) := by
  have HF : Hid (∀ W, Hid (Bw w W) → Calls Tryd.prog 19 #[.slice A n c] W (On w (.bool (ft l)))) := Lib.hid fun W hW => on_same hW (rFits_any l A n c W hl hn (sees_bw hs hW.out))
  have HG : Hid (∀ W, Hid (Bw w W) → Calls Tryd.prog 19 #[.slice B k d] W (On w (.bool (ft m)))) := Lib.hid fun W hW => on_same hW (rFits_any m B k d W hm hk (sees_bw ht hW.out))
  have HM : Hid (∀ x y W, Bw w W → Calls Tryd.prog 33 #[.int .i64 x, .int .i64 y] W (Says W (.bool (my x y)))) := Lib.hid fun x y W hW => says_of_same (rMay_any x y W)
  have K0 : Hid (Bw w w) := Lib.hid (Bw.refl w)
  have HS := Lib.hid hs
  have HT := Lib.hid ht
  have HN := Lib.hid hn
  by_cases hnk : n = k
  · subst hnk
    cases f1 : ft l
    · rw [fo_from f1]
      rw [f1] at HF
      clear hl hm hn hk hs ht f1
      go_enter Tryd.func20, Tryd.ntmps20
      go_wp2_with (first
        | (go_at_call 19; ((with_reducible refine (HF.out _ K0).mono ?_); clear HF; rintro e w1 ⟨rfl, K1⟩))
        | (go_at_call 19; ((with_reducible refine (HG.out _ K1).mono ?_); clear HG; rintro e w2 ⟨rfl, K2⟩)))
      go_ret
      exact ⟨rfl, K2.out⟩
    · cases f2 : ft m
      · rw [fo_to f2]
        rw [f1] at HF
        rw [f2] at HG
        clear hl hm hn hk hs ht f1 f2
        go_enter Tryd.func20, Tryd.ntmps20
        go_wp2_with (first
          | (go_at_call 19; ((with_reducible refine (HF.out _ K0).mono ?_); clear HF; rintro e w1 ⟨rfl, K1⟩))
          | (go_at_call 19; ((with_reducible refine (HG.out _ K1).mono ?_); rintro e w2 ⟨rfl, K2⟩)))
        go_ret
        exact ⟨rfl, K2.out⟩
      · obtain ⟨v, hv⟩ : ∃ v, fo l m = v := ⟨_, rfl⟩
        rw [hv]
        have HV := Lib.hid hv
        have HY : Hid (Fol l m n → fo l m = true) := Lib.hid fun h => fo_yes (by omega) f1 f2 fun i x y hx hy => h i x y (by have := (List.getElem?_eq_some_iff.1 hx).1; omega) hx hy
        rw [f1] at HF
        rw [f2] at HG
        have HL := Lib.hid hl
        have HK := Lib.hid hm
        clear hl hm hn hk hs ht f1 f2 hv
        go_enter Tryd.func20, Tryd.ntmps20
        go_wp2_with (first
          | (go_at_call 19; ((with_reducible refine (HF.out _ K0).mono ?_); clear HF; rintro e w1 ⟨rfl, K1⟩))
          | (go_at_call 19; ((with_reducible refine (HG.out _ K1).mono ?_); clear HG; rintro e w2 ⟨rfl, K2⟩)))
        go_loopw [7, 8] (fun a _ wr => ∃ j : Nat, a = .int .i64 j ∧ j ≤ n ∧ Hid (Bw w wr) ∧ Hid (Fol l m j)) (fun a _ _ => n - (intOf a).toNat)
        case atStart => exact ⟨0, rfl, Nat.zero_le _, K2, Lib.hid fun t x y ht => by omega⟩
        case round =>
          clear K2 K1 K0
          obtain ⟨j, rfl, hj, K, hM⟩ := hrel
          by_cases hlt : j < n
          · obtain ⟨x, hx⟩ : ∃ x, l[j]? = some x := ⟨_, List.getElem?_eq_getElem (by rw [HL.out]; omega)⟩
            obtain ⟨y, hy⟩ : ∃ y, m[j]? = some y := ⟨_, List.getElem?_eq_getElem (by rw [HK.out]; omega)⟩
            obtain ⟨b, o, rfl, hb, hc⟩ := (sees_bw HS.out K.out).at_ (k := j) (u := .int .i64 x) (by simp [nums, hx])
            obtain ⟨b2, o2, rfl, hb2, hc2⟩ := (sees_bw HT.out K.out).at_ (k := j) (u := .int .i64 y) (by simp [nums, hy])
            have HX := Lib.hid (And.intro hx hy)
            have HC := Lib.hid (And.intro hc hc2)
            have i1 : (j : Int) < (n : Int) := by omega
            have e3 : IntKind.i64.wrap ((j : Int) + 1) = ((j + 1 : Nat) : Int) := by rw [IntWalk.i64_in _ (by have := HN.out; omega)]; rfl
            have HMy := Lib.hid (fun W => HM.out x y W)
            have hjS : Hid (JS wr [] wr) := Lib.hid (J.start wr)
            obtain ⟨g, hg⟩ : ∃ g, my x y = g := ⟨_, rfl⟩
            rw [hg] at HMy
            have HG2 := Lib.hid hg
            clear hx hy hc hc2 hg
            cases g
            · have HE := Lib.hid (HV.out.symm.trans (fo_no HX.out.1 HX.out.2 HG2.out))
              go_wp2
              refine wp_region_all _ JS.closed hjS.out (by kernel_rfl) (by kernel_rfl) ?_
              apply Exists.intro
              refine ⟨fun w3 h3 => ?_, fun W3 hJ3 hb3 => ?_⟩
              · haveI := Ext.some h3
                have q0 := ext_old h3 (a := ⟨b, o + j, none⟩) hb HC.out.1
                have q1 := ext_old h3 (a := ⟨b2, o2 + j, none⟩) hb2 HC.out.2
                have cM := Lib.hid (Ext.calls h3 JS.closed (fun W hW => HMy.out W (K.out.next (J.below hW))))
                repeat go_big_quiet_step (first | (go_at_call 33; with_reducible exact cM.out _))
                exact wpQuiet_nil rfl
              · go_wp2
                try rw [Exit.noGoto_ret]
                go_ret
                exact ⟨ret_bool HE.out.symm, K.out.next (J.below hJ3)⟩
            · have hM2 := Lib.hid (hM.out.next HX.out.1 HX.out.2 HG2.out)
              go_wp2
              refine wp_region_all _ JS.closed hjS.out (by kernel_rfl) (by kernel_rfl) ?_
              apply Exists.intro
              refine ⟨fun w3 h3 => ?_, fun W3 hJ3 hb3 => ?_⟩
              · haveI := Ext.some h3
                have q0 := ext_old h3 (a := ⟨b, o + j, none⟩) hb HC.out.1
                have q1 := ext_old h3 (a := ⟨b2, o2 + j, none⟩) hb2 HC.out.2
                have cM := Lib.hid (Ext.calls h3 JS.closed (fun W hW => HMy.out W (K.out.next (J.below hW))))
                repeat go_big_quiet_step (first | (go_at_call 33; with_reducible exact cM.out _))
                exact wpQuiet_nil rfl
              · have K3 := Lib.hid (K.out.next (J.below hJ3))
                clear hJ3 hb3
                go_wp2
                go_roundw
                case rel => exact ⟨j + 1, rfl, by omega, K3, hM2⟩
                case measure => simp [intOf]; omega
          · obtain rfl : j = n := by omega
            have HE := Lib.hid (HV.out.symm.trans (HY.out hM.out))
            go_wp2
            go_ret
            exact ⟨ret_bool HE.out.symm, K.out⟩
  · rw [fo_len (by rw [hl, hm]; exact hnk)]
    have k1 : ((n : Int) == (k : Int)) = false := by simp; omega
    have k2 : ((n : Int) != (k : Int)) = true := by simp; omega
    generalize ft l = x at *
    generalize ft m = y at *
    clear hl hm hn hk hs ht
    go_enter Tryd.func20, Tryd.ntmps20
    go_wp2_with (first
      | (go_at_call 19; ((with_reducible refine (HF.out _ K0).mono ?_); clear HF; rintro e w1 ⟨rfl, K1⟩))
      | (go_at_call 19; ((with_reducible refine (HG.out _ K1).mono ?_); clear HG; rintro e w2 ⟨rfl, K2⟩)))
    go_ret
    exact ⟨rfl, K2.out⟩
end Go.Proofs.YthgfjikhbgippaaDoor.Pha
