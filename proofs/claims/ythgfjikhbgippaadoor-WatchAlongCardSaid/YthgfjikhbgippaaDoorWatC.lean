/- Contracts of the reference's Over and Breaks. -/
import Derived.Test.YthgfjikhbgippaaDoorWatB
namespace Go.Proofs.YthgfjikhbgippaaDoor.Wat
open Go.RowKit Go.Proofs.YthgfjikhbgippaaDoor.Plain Go.Proofs.YthgfjikhbgippaaDoor.WatP Go.Proofs.YthgfjikhbgippaaDoor.OrdP Go.Proofs.YthgfjikhbgippaaDoor.PhaP Go.Proofs.YthgfjikhbgippaaDoor.FedP Go.Proofs.YthgfjikhbgippaaDoor.Open Go.Proofs.YthgfjikhbgippaaDoor.Sees Go.Proofs.YthgfjikhbgippaaDoor.Box Go.Proofs.YthgfjikhbgippaaDoor.Held Go.Proofs.YthgfjikhbgippaaDoor.Pha
open Go.Proofs.YthgfjikhbgippaaDoor.Fed (hs an_hs refKnown_any karr kval)
set_option linter.unusedVariables false
set_option linter.unusedSimpArgs false
set_option maxRecDepth 100000

/-- the capacities that are told -/
def cs (l : List Fc) : List Int := l.map Fc.cp
/-- was too much drawn in tick t? -/
def ov (k : Nat) (l : List Fc) (t : Nat) : Bool := decide ((l[t]?.getD default).pw = 2) && decide (an k (hs (cs l) (t + 1)) < (l[t]?.getD default).dr)
/-- the rows of phases -/
def zs (l : List Fc) : List (List Int) := l.map fun x => x.r.zs
/-- don't the phases of tick t follow? -/
def br (l : List Fc) (t : Nat) : Bool := !gd (zs l) t
theorem ov_at {k : Nat} {l : List Fc} {t : Nat} {x : Fc} (h : l[t]? = some x) : ov k l t = (decide (x.pw = 2) && decide (an k (hs (cs l) (t + 1)) < x.dr)) := by unfold ov; rw [h]; rfl
theorem zs_at {l : List Fc} {t : Nat} {x : Fc} (h : l[t]? = some x) : (zs l)[t]?.getD [] = x.r.zs := by unfold zs; rw [List.getElem?_map, h]; rfl
theorem br_zero {l : List Fc} {x : Fc} (h : l[0]? = some x) : br l 0 = !ft x.r.zs := by unfold br gd; rw [if_pos rfl, zs_at h]
theorem br_succ {l : List Fc} {t : Nat} {x y : Fc} (h : l[t]? = some x) (h' : l[t + 1]? = some y) : br l (t + 1) = !fo x.r.zs y.r.zs := by
  unfold br gd; rw [if_neg (by omega), Nat.add_sub_cancel, zs_at h, zs_at h']
theorem an_cs (k m : Nat) (l : List Fc) (h : m ≤ l.length) : Go.Proofs.YthgfjikhbgippaaDoor.Fed.kn k m ((cs l).take m) = an k (hs (cs l) m) := by
  have e1 : hs ((cs l).take m) m = hs (cs l) m := by unfold hs; rw [List.take_take, Nat.min_self]
  rw [← an_hs k m ((cs l).take m) (by unfold cs; simp; omega), e1]
theorem info_ri : (Tryd.prog.info? 3).map (fun i => (i.zero, i.size, i.bytes)) = some (some (.int .i64 0), 1, 8) := by kernel_rfl
theorem cs_snoc {l : List Fc} {q : Nat} {x : Fc} (h : l[q]? = some x) : (cs l).take (q + 1) = (cs l).take q ++ [x.cp] := by
  unfold cs; rw [List.take_add_one, List.getElem?_map, h]; rfl

set_option maxHeartbeats 6400000 in
theorem rOver_any (lag : Int) (k : Nat) (hk : bo lag 0 8 = k) (l : List Fc) (A : Option Addr) (n c t : Nat) (w : World) (hl : l.length = n) (hn : n ≤ 60) (ht : t < n) (hs_ : Sh w A l) :
    Calls Tryd.prog 9 #[.int .i64 lag, .slice A n c, .int .i64 t] w (Says w (.bool (ov k l t))) := by
  obtain ⟨i0, hi, hz0, hz1, hz2⟩ := info_parts info_ri
  have HS := Lib.hid hs_
  have HL := Lib.hid hl
  have K0 : Hid (Bw w w) := Lib.hid (Bw.refl w)
  have HK := Lib.hid hk
  obtain ⟨x, hx⟩ : ∃ x, l[t]? = some x := ⟨_, List.getElem?_eq_getElem (by omega)⟩
  have HX := Lib.hid hx
  have HV := Lib.hid (ov_at (k := k) hx)
  clear hl hs_ hk hx
  go_enter Tryd.func9, Tryd.ntmps9
  go_wp2
  go_loopw [7, 8] (fun v i wr => ∃ q : Nat, q ≤ t + 1 ∧ i = .int .i64 q ∧ Hid (Bw w wr) ∧ wr.ownsRow w.heap.size 3 1 v q (nums .i64 ((cs l).take q))) (fun _ i _ => t + 1 - (intOf i).toNat)
  case atStart => exact ⟨0, Nat.zero_le _, rfl, K0, by simpa [nums] using World.ownsRow_nil _ _ _ _⟩
  case round =>
    clear K0
    obtain ⟨q, hq, rfl, K, hown⟩ := hrel
    have hwr : w.heap.size ≤ wr.heap.size := K.out.size
    by_cases hlt : q < t + 1
    · obtain ⟨y, hy⟩ : ∃ y, l[q]? = some y := ⟨_, List.getElem?_eq_getElem (by rw [HL.out]; omega)⟩
      obtain ⟨bb, o, rfl, hbb, c0, c1, c2, c3, c4⟩ := facts_at (HS.out.bw K.out).see q hy
      have HT := Lib.hid (cs_snoc hy)
      generalize y.cp = cp at *
      have i1 : (q : Int) ≤ (t : Int) := by omega
      have i2 : (q : Int) < (n : Int) := by omega
      have e3 : IntKind.i64.wrap ((q : Int) + 1) = ((q + 1 : Nat) : Int) := by rw [IntWalk.i64_in _ (by omega)]; rfl
      have HLT := Lib.hid hlt
      clear hy c0 c1 c3 c4
      go_wp2_with (at_builtin; go_loud (refine wpList_append_own_at _ rfl (.tmp 14) (.tmp 20) 37 rfl w.heap.size 3 i0 (.int .i64 0) 1 8 Tryd.underlying37 hi hz0 hz1 hz2 rfl (by decide) _ _ _ rfl (hown.alloc _) ⟨wr.heap.size, 0, none⟩ 1 1 [.int .i64 cp] rfl rfl (new_cell _ _ _) (one_cell _ _) (by unfold maxLen; omega) (by omega) (by simp; omega) ?_); go_loud (intro v' w11 hown11 hg11 _ hat11; have K2 := Lib.hid ((K.out.next below_box).grown hg11 (by simp; omega) (fun g e => (hown.lt g e).1))))
      go_roundw
      case rel => exact ⟨q + 1, by omega, rfl, K2, by rw [HT.out, nums_append]; exact hown11⟩
      case measure => have := HLT.out; simp [intOf]; omega
    · obtain rfl : q = t + 1 := by omega
      obtain ⟨B, cb, rfl, _, hsee, _⟩ := own_formN hown (by decide)
      have HSE := Lib.hid hsee
      obtain ⟨bb, o, rfl, hbb, c0, c1, c2, c3, c4⟩ := facts_at (HS.out.bw K.out).see t HX.out
      have HR : Hid (∀ W, Bw wr W → Calls Tryd.prog 18 #[.int .i64 lag, .slice B (t + 1) cb] W (Says W (.int .i64 (an k (hs (cs l) (t + 1)))))) := Lib.hid fun W hW => by
        rw [← an_cs k (t + 1) l (by have := HL.out; omega)]
        exact says_of_same (refKnown_any lag k HK.out _ _ _ _ (by have := HL.out; unfold cs; simp; omega) (by omega) W (sees_bw HSE.out hW))
      obtain ⟨pw, dr, cp, r, rs⟩ := x
      simp only at c0 c1 HV
      generalize an k (hs (cs l) (t + 1)) = z at *
      have i1 : ¬ ((t + 1 : Nat) : Int) ≤ (t : Int) := by omega
      have i2 : (t : Int) < (n : Int) := by omega
      have hjS : Hid (JS wr [] wr) := Lib.hid (J.start wr)
      clear hsee hown c2 c3 c4
      by_cases h2 : pw = 2
      · subst h2
        have HE : Hid (decide (z < dr) = ov k l t) := Lib.hid (by rw [HV.out]; simp)
        clear HV
        go_wp2
        refine wp_region_all _ JS.closed hjS.out (by kernel_rfl) (by kernel_rfl) ?_
        apply Exists.intro
        refine ⟨fun w3 h3 => ?_, fun W3 hJ3 hb3 => ?_⟩
        · haveI := Ext.some h3
          have q0 := ext_old h3 (a := ⟨bb, o + t * 5, none⟩) hbb c0
          have q1 := ext_old h3 (a := ⟨bb, o + t * 5 + 1, none⟩) hbb c1
          have cM := Lib.hid (Ext.calls h3 JS.closed (fun W hW => HR.out W (J.below hW)))
          repeat go_big_quiet_step (first | (go_at_call 18; with_reducible exact cM.out _))
          exact wpQuiet_nil rfl
        · go_wp2
          go_ret
          exact ⟨ret_bool HE.out, K.out.next (J.below hJ3)⟩
      · have k2 : (pw == 2) = false := by simpa using h2
        have HE : Hid (false = ov k l t) := Lib.hid (by rw [HV.out]; simp [h2])
        clear HV
        go_wp2
        refine wp_region_all _ JS.closed hjS.out (by kernel_rfl) (by kernel_rfl) ?_
        apply Exists.intro
        refine ⟨fun w3 h3 => ?_, fun W3 hJ3 hb3 => ?_⟩
        · haveI := Ext.some h3
          have q0 := ext_old h3 (a := ⟨bb, o + t * 5, none⟩) hbb c0
          repeat go_big_quiet_step (fail)
          exact wpQuiet_nil rfl
        · go_wp2
          go_ret
          exact ⟨ret_bool HE.out, K.out.next (J.below hJ3)⟩

set_option maxHeartbeats 3200000 in
theorem rBreaks_any (l : List Fc) (A : Option Addr) (n c t : Nat) (w : World) (hl : l.length = n) (hn : n ≤ 60) (hr : ∀ x ∈ l, x.r.zs.length ≤ 64) (ht : t < n) (hs_ : Sh w A l) :
    Calls Tryd.prog 10 #[.slice A n c, .int .i64 t] w (Says w (.bool (br l t))) := by
  have HF : Hid (∀ x W, x ∈ l → Bw w W → Calls Tryd.prog 19 #[x.r.val] W fun e w' => e = .returned (.bool (ft x.r.zs)) ∧ W = w') := Lib.hid fun x W hx hW => rFits_any x.r.zs x.r.A _ x.r.c W rfl (by have := hr x hx; omega) ((hs_.rows x hx).bw hW).see
  have HG : Hid (∀ x y W, x ∈ l → y ∈ l → Bw w W → Calls Tryd.prog 20 #[x.r.val, y.r.val] W (Says W (.bool (fo x.r.zs y.r.zs)))) := Lib.hid fun x y W hx hy hW =>
    rFollows_any x.r.zs y.r.zs x.r.A y.r.A _ x.r.c _ y.r.c W rfl rfl (by have := hr x hx; omega) (by have := hr y hy; omega) ((hs_.rows x hx).bw hW).see ((hs_.rows y hy).bw hW).see
  obtain ⟨x, hx⟩ : ∃ x, l[t]? = some x := ⟨_, List.getElem?_eq_getElem (by omega)⟩
  obtain ⟨bb, o, rfl, hbb, c0, c1, c2, c3, c4⟩ := facts_at hs_.see t hx
  have HA := Lib.hid (HF.out x w (List.mem_of_getElem? hx) (Bw.refl w))
  have i2 : (t : Int) < (n : Int) := by omega
  clear c0 c1 c2 c4
  by_cases h0 : t = 0
  · subst h0
    have HB := Lib.hid (br_zero hx)
    unfold RowN.val at HA c3
    generalize x.r.A = Ar at *
    generalize x.r.c = cr at *
    generalize ft x.r.zs = f at *
    generalize x.r.zs.length = q at *
    clear hx hr hs_ HF HG
    go_enter Tryd.func10, Tryd.ntmps10
    go_wp2_with (go_at_call 19; ((with_reducible refine HA.out.mono ?_); rintro e w1 ⟨rfl, rfl⟩))
    go_ret
    exact ⟨ret_bool HB.out.symm, Below.refl _ _⟩
  · obtain ⟨s, rfl⟩ : ∃ s, t = s + 1 := ⟨t - 1, by omega⟩
    obtain ⟨y, hy⟩ : ∃ y, l[s]? = some y := ⟨_, List.getElem?_eq_getElem (by omega)⟩
    obtain ⟨b2, o2, hab, hb2, d0, d1, d2, d3, d4⟩ := facts_at hs_.see s hy
    have hab' := Option.some.inj hab
    injection hab' with hb' ho'
    subst hb' ho'
    have HB := Lib.hid (br_succ hy hx)
    have HC := Lib.hid fun W hW => HG.out y x W (List.mem_of_getElem? hy) (List.mem_of_getElem? hx) hW
    have e4 : IntKind.i64.wrap (((s + 1 : Nat) : Int) - 1) = (s : Int) := by rw [IntWalk.i64_in _ (by omega)]; omega
    have i3 : (0 : Int) < ((s + 1 : Nat) : Int) := by omega
    have i4 : (s : Int) < (n : Int) := by omega
    have hjS : Hid (JS w [] w) := Lib.hid (J.start w)
    unfold RowN.val at HA HC c3 d3
    generalize x.r.A = Ar at *
    generalize x.r.c = cr at *
    generalize y.r.A = Ay at *
    generalize y.r.c = cy at *
    generalize ft x.r.zs = f at *
    generalize fo y.r.zs x.r.zs = g at *
    generalize x.r.zs.length = q at *
    generalize y.r.zs.length = q2 at *
    clear hx hy hr hs_ HF HG d0 d1 d2 d4 hab
    go_enter Tryd.func10, Tryd.ntmps10
    go_wp2_with (go_at_call 19; ((with_reducible refine HA.out.mono ?_); rintro e w1 ⟨rfl, rfl⟩))
    refine wp_region_all _ JS.closed hjS.out (by kernel_rfl) (by kernel_rfl) ?_
    apply Exists.intro
    refine ⟨fun w3 h3 => ?_, fun W3 hJ3 hb3 => ?_⟩
    · haveI := Ext.some h3
      have q0 := ext_old h3 (a := ⟨bb, o + (s + 1) * 5 + 3, none⟩) hbb c3
      have q1 := ext_old h3 (a := ⟨bb, o + s * 5 + 3, none⟩) hbb d3
      have cM := Lib.hid (Ext.calls h3 JS.closed (fun W hW => HC.out W (J.below hW)))
      repeat go_big_quiet_step (first | (go_at_call 20; with_reducible exact cM.out _))
      exact wpQuiet_nil rfl
    · go_wp2
      go_ret
      exact ⟨ret_bool HB.out.symm, J.below hJ3⟩
end Go.Proofs.YthgfjikhbgippaaDoor.Wat
