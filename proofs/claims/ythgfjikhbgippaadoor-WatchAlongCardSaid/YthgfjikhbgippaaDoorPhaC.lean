/- The contracts of Follows, the program's and the reference's. -/
import Derived.Test.YthgfjikhbgippaaDoorPhaB
import Derived.Test.YthgfjikhbgippaaDoorPhaR
import Derived.Test.YthgfjikhbgippaaDoorHeld
namespace Go.Proofs.YthgfjikhbgippaaDoor.Pha
open Go.RowKit Go.Proofs.YthgfjikhbgippaaDoor.Plain Go.Proofs.YthgfjikhbgippaaDoor.PhaP Go.Proofs.YthgfjikhbgippaaDoor.Sees Go.Proofs.YthgfjikhbgippaaDoor.Box Go.Proofs.YthgfjikhbgippaaDoor.Held
set_option linter.unusedVariables false
set_option maxRecDepth 100000

/-- memory alone was made since w -/
def Bw (w W : World) : Prop := Below w.heap.size w W
theorem Bw.refl (w : World) : Bw w w := Below.refl _ _
theorem Bw.next {w W W' : World} (h : Bw w W) (k : Below W.heap.size W W') : Bw w W' := below_more h k (Nat.le_refl _)
/-- a call that answers v and makes memory alone -/
def On (w : World) (v : Value) (e : Ending) (w' : World) : Prop := e = .returned v ∧ Hid (Bw w w')
theorem on_says {f : FuncId} {args : Array Value} {w W : World} {v : Value} (hW : Hid (Bw w W)) (h : Calls Tryd.prog f args W (Says W v)) : Calls Tryd.prog f args W (On w v) :=
  h.mono fun e w' ⟨h1, h2⟩ => ⟨h1, Lib.hid (hW.out.next h2)⟩
theorem on_same {f : FuncId} {args : Array Value} {w W : World} {v : Value} (hW : Hid (Bw w W)) (h : Calls Tryd.prog f args W fun e w' => e = .returned v ∧ W = w') : Calls Tryd.prog f args W (On w v) :=
  h.mono fun e w' ⟨h1, h2⟩ => ⟨h1, h2 ▸ hW⟩
theorem sees_bw {w W : World} {A : Option Addr} {xs : List Value} (h : Sees w w.heap.size A xs) (hW : Bw w W) : Sees W W.heap.size A xs := (h.below hW (Nat.le_refl _)).more hW.size
theorem Lay.bw {w W : World} (h : Lay w) (hW : Bw w W) : Lay W := h.next hW

/-- the first j of them may follow -/
def Fol (l m : List Int) (j : Nat) : Prop := ∀ (t : Nat) (x y : Int), t < j → l[t]? = some x → m[t]? = some y → my x y = true
theorem Fol.next {l m : List Int} {j : Nat} {x y : Int} (h : Fol l m j) (hx : l[j]? = some x) (hy : m[j]? = some y) (hm : my x y = true) : Fol l m (j + 1) := by
  intro t a b ht ha hb
  by_cases e : t = j
  · subst e
    obtain rfl : x = a := Option.some.inj (hx.symm.trans ha)
    obtain rfl : y = b := Option.some.inj (hy.symm.trans hb)
    exact hm
  · exact h t a b (by omega) ha hb

set_option maxHeartbeats 3200000 in
theorem Follows_any (l m : List Int) (A B : Option Addr) (n c k d : Nat) (w : World) (hL : Lay w) (hl : l.length = n) (hm : m.length = k) (hn : n ≤ maxLen) (hk : k ≤ maxLen)
    (hs : Sees w w.heap.size A (nums .i64 l)) (ht : Sees w w.heap.size B (nums .i64 m)) : Calls Tryd.prog 37 #[.slice A n c, .slice B k d] w (Says w (.bool (fo l m))) := by
  have HF : Hid (∀ W, Hid (Bw w W) → Calls Tryd.prog 36 #[.slice A n c] W (On w (.bool (ft l)))) := Lib.hid fun W hW => on_says hW (Fits_any l A n c W hl hn (sees_bw hs hW.out))
  have HG : Hid (∀ W, Hid (Bw w W) → Calls Tryd.prog 36 #[.slice B k d] W (On w (.bool (ft m)))) := Lib.hid fun W hW => on_says hW (Fits_any m B k d W hm hk (sees_bw ht hW.out))
  have HM : Hid (∀ x y W, Bw w W → Calls Tryd.prog 42 #[.int .i64 x, .int .i64 y] W (Says W (.bool (my x y)))) := Lib.hid fun x y W hW => says_of_same (May_any x y W (hL.bw hW))
  have K0 : Hid (Bw w w) := Lib.hid (Bw.refl w)
  have HS := Lib.hid hs
  have HT := Lib.hid ht
  have HN := Lib.hid hn
  unfold maxLen at hn hk
  by_cases hnk : n = k
  · subst hnk
    cases f1 : ft l
    · rw [fo_from f1]
      rw [f1] at HF
      clear hL hl hm hn hk hs ht f1
      go_enter Tryd.func37, Tryd.ntmps37
      go_wp2_with (go_at_call 36; ((with_reducible refine (HF.out _ K0).mono ?_); rintro e w1 ⟨rfl, K1⟩))
      go_ret
      exact ⟨rfl, K1.out⟩
    · cases f2 : ft m
      · rw [fo_to f2]
        rw [f1] at HF
        rw [f2] at HG
        clear hL hl hm hn hk hs ht f1 f2
        go_enter Tryd.func37, Tryd.ntmps37
        go_wp2_with (first
          | (go_at_call 36; ((with_reducible refine (HF.out _ K0).mono ?_); clear HF; rintro e w1 ⟨rfl, K1⟩))
          | (go_at_call 36; ((with_reducible refine (HG.out _ K1).mono ?_); rintro e w2 ⟨rfl, K2⟩)))
        go_ret
        exact ⟨rfl, K2.out⟩
      · obtain ⟨v, hv⟩ : ∃ v, fo l m = v := ⟨_, rfl⟩
        rw [hv]
        have HV := Lib.hid hv
        have HY : Hid (Fol l m n → fo l m = true) := Lib.hid fun h => fo_yes (by omega) f1 f2 fun i x y hx hy => h i x y (by have := (List.getElem?_eq_some_iff.1 hx).1; omega) hx hy
        rw [f1] at HF
        rw [f2] at HG
        have HL := Lib.hid hl
        have HK := Lib.hid hm
        clear hL hl hm hn hk hs ht f1 f2 hv
        go_enter Tryd.func37, Tryd.ntmps37
        go_wp2_with (first
          | (go_at_call 36; ((with_reducible refine (HF.out _ K0).mono ?_); clear HF; rintro e w1 ⟨rfl, K1⟩))
          | (go_at_call 36; ((with_reducible refine (HG.out _ K1).mono ?_); clear HG; rintro e w2 ⟨rfl, K2⟩)))
        go_loopw [5, 23] (fun _ a wr => ∃ j : Nat, a = .int .i64 j ∧ j ≤ n ∧ Hid (Bw w wr) ∧ Hid (Fol l m j)) (fun _ a _ => n - (intOf a).toNat)
        case atStart => exact ⟨0, rfl, Nat.zero_le _, K2, Lib.hid fun t x y ht => by omega⟩
        case round =>
          clear K2 K1 K0
          obtain ⟨j, rfl, hj, K, hM⟩ := hrel
          by_cases hlt : j < n
          · obtain ⟨x, hx⟩ : ∃ x, l[j]? = some x := ⟨_, List.getElem?_eq_getElem (by rw [HL.out]; omega)⟩
            obtain ⟨y, hy⟩ : ∃ y, m[j]? = some y := ⟨_, List.getElem?_eq_getElem (by rw [HK.out]; omega)⟩
            obtain ⟨b, o, rfl, hb, hc⟩ := (sees_bw HS.out K.out).at_ (k := j) (u := .int .i64 x) (by simp [nums, hx])
            obtain ⟨b2, o2, rfl, hb2, hc2⟩ := (sees_bw HT.out K.out).at_ (k := j) (u := .int .i64 y) (by simp [nums, hy])
            have HX := Lib.hid (And.intro hx hy)
            have HC := Lib.hid (And.intro hc hc2)
            have i1 : (j : Int) < (n : Int) := by omega
            have e3 : IntKind.i64.wrap ((j : Int) + 1) = ((j + 1 : Nat) : Int) := by rw [IntWalk.i64_in _ (by have := HN.out; unfold maxLen at this; omega)]; rfl
            have HMy := Lib.hid (fun W => HM.out x y W)
            have hjS : Hid (JS wr [] wr) := Lib.hid (J.start wr)
            obtain ⟨g, hg⟩ : ∃ g, my x y = g := ⟨_, rfl⟩
            rw [hg] at HMy
            have HG2 := Lib.hid hg
            clear hx hy hc hc2 hg
            cases g
            · have HE := Lib.hid (HV.out.symm.trans (fo_no HX.out.1 HX.out.2 HG2.out))
              go_wp2
              refine wp_region_all _ JS.closed hjS.out (by kernel_rfl) (by kernel_rfl) ?_
              apply Exists.intro
              refine ⟨fun w3 h3 => ?_, fun W3 hJ3 hb3 => ?_⟩
              · haveI := Ext.some h3
                have q0 := ext_old h3 (a := ⟨b, o + j, none⟩) hb HC.out.1
                have q1 := ext_old h3 (a := ⟨b2, o2 + j, none⟩) hb2 HC.out.2
                have cM := Lib.hid (Ext.calls h3 JS.closed (fun W hW => HMy.out W (K.out.next (J.below hW))))
                repeat go_big_quiet_step (first | (go_at_call 42; with_reducible exact cM.out _))
                exact wpQuiet_nil rfl
              · go_wp2
                try rw [Exit.noGoto_ret]
                go_ret
                exact ⟨ret_bool HE.out.symm, K.out.next (J.below hJ3)⟩
            · have hM2 := Lib.hid (hM.out.next HX.out.1 HX.out.2 HG2.out)
              go_wp2
              refine wp_region_all _ JS.closed hjS.out (by kernel_rfl) (by kernel_rfl) ?_
              apply Exists.intro
              refine ⟨fun w3 h3 => ?_, fun W3 hJ3 hb3 => ?_⟩
              · haveI := Ext.some h3
                have q0 := ext_old h3 (a := ⟨b, o + j, none⟩) hb HC.out.1
                have q1 := ext_old h3 (a := ⟨b2, o2 + j, none⟩) hb2 HC.out.2
                have cM := Lib.hid (Ext.calls h3 JS.closed (fun W hW => HMy.out W (K.out.next (J.below hW))))
                repeat go_big_quiet_step (first | (go_at_call 42; with_reducible exact cM.out _))
                exact wpQuiet_nil rfl
              · have K3 := Lib.hid (K.out.next (J.below hJ3))
                clear hJ3 hb3
                go_wp2
                go_roundw
                case rel => exact ⟨j + 1, rfl, by omega, K3, hM2⟩
                case measure => simp [intOf]; omega
          · obtain rfl : j = n := by omega
            have HE := Lib.hid (HV.out.symm.trans (HY.out hM.out))
            go_wp2
            go_ret
            exact ⟨ret_bool HE.out.symm, K.out⟩
  · rw [fo_len (by rw [hl, hm]; exact hnk)]
    have k1 : ((n : Int) == (k : Int)) = false := by simp; omega
    have k2 : ((n : Int) != (k : Int)) = true := by simp; omega
    clear hL hl hm hn hk hs ht
    go_enter Tryd.func37, Tryd.ntmps37
    go_wp2
    go_ret
    exact ⟨rfl, K0.out⟩
end Go.Proofs.YthgfjikhbgippaaDoor.Pha
