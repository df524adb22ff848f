/- The walk of PhaseAccepts. -/
import Derived.Test.YtdmihhjbbodjoaaDoorPhaF
import Derived.OpenShut
namespace Go.Proofs.YtdmihhjbbodjoaaDoor.Walk
open Go.RowKit Go.ChangeShapes Go.Proofs.YtdmihhjbbodjoaaDoor.Plain Go.Proofs.YtdmihhjbbodjoaaDoor.PhaP Go.Proofs.YtdmihhjbbodjoaaDoor.Pha Go.Proofs.YtdmihhjbbodjoaaDoor.Box Go.Proofs.YtdmihhjbbodjoaaDoor.Held Go.Proofs.YtdmihhjbbodjoaaDoor.Sees Go.Proofs.YtdmihhjbbodjoaaDoor.Open
set_option linter.unusedVariables false

/-- what the law has counted so far -/
structure Cnt (rs : List RowN) (i m : Nat) (x : Bool) : Prop where
  on : x = true → m = i ∧ ∀ t, t < i → gd (zz rs) t = true
  off : x = false → Ac (zz rs) m
theorem Cnt.start (rs : List RowN) : Cnt rs 0 0 true := ⟨fun _ => ⟨rfl, fun t ht => by omega⟩, fun h => (by cases h)⟩
theorem Cnt.yes {rs : List RowN} {i m : Nat} (h : Cnt rs i m true) (hg : gd (zz rs) i = true) : Cnt rs (i + 1) (m + 1) true := by
  obtain ⟨h1, h2⟩ := h.on rfl
  refine ⟨fun _ => ⟨by omega, fun t ht => ?_⟩, fun h => (by cases h)⟩
  by_cases e : t = i
  · rw [e]; exact hg
  · exact h2 t (by omega)
theorem Cnt.no {rs : List RowN} {i m : Nat} (h : Cnt rs i m true) (hi : i < (zz rs).length) (hg : gd (zz rs) i = false) : Cnt rs (i + 1) m false := by
  obtain ⟨h1, h2⟩ := h.on rfl
  subst h1
  exact ⟨fun h => (by cases h), fun _ => ⟨by omega, h2, fun _ => hg⟩⟩
theorem Cnt.stay {rs : List RowN} {i m : Nat} (h : Cnt rs i m false) : Cnt rs (i + 1) m false := ⟨fun h => (by cases h), fun _ => h.off rfl⟩
theorem Cnt.end_ {rs : List RowN} {m : Nat} {x : Bool} (h : Cnt rs (zz rs).length m x) : Ac (zz rs) m := by
  cases x
  · exact h.off rfl
  · obtain ⟨h1, h2⟩ := h.on rfl
    exact ⟨by omega, fun j hj => h2 j (by omega), fun hn => by omega⟩

theorem rows_take {W : World} {B : Nat} {a : Option Addr} {rs : List RowN} (h : Sees W B a (rs.map RowN.val)) (n : Nat) : Sees W B a ((rs.take n).map RowN.val) := by
  rcases h with h | ⟨b, o, ha, hb, hc⟩
  · have : rs = [] := by simpa using h
    subst this; exact .inl (by simp)
  · refine .inr ⟨b, o, ha, hb, fun j u hu => hc j u ?_⟩
    rw [List.getElem?_map] at hu ⊢
    rw [List.getElem?_take] at hu
    split at hu
    · exact hu
    · cases hu
/-- rows cut at both ends -/
theorem rows_lh (A : Option Addr) (n cap s m : Nat) (h : s ≤ m) (hm : m ≤ n) (hc : n ≤ cap) : ∃ A3 : Option Addr,
    (∀ W, (Instr.sliceAt 29 (.slice A n cap) (some (.int .i64 (s : Int))) (some (.int .i64 (m : Int))) none).run Tryd.prog W = .ok (.slice A3 (m - s) (cap - s)) W) ∧
    (∀ W, (Instr.slice 29 (.slice A n cap) (some (.int .i64 (s : Int))) (some (.int .i64 (m : Int))) none).run Tryd.prog W = .ok (.slice A3 (m - s) (cap - s)) W) ∧
    (∀ W B (rs : List RowN), rs.length = n → Sees W B A (rs.map RowN.val) → Sees W B A3 (((rs.take m).drop s).map RowN.val)) := by
  have hu : Tryd.prog.underlying 29 = some (.slice (Tryd.prog.elem 29)) := by kernel_rfl
  have h2 : ∀ W, (Instr.slice 29 (.slice A n cap) (some (.int .i64 (s : Int))) (some (.int .i64 (m : Int))) none).run Tryd.prog W = .ok (.slice (if cap = s then A else A.map (·.add s)) (m - s) (cap - s)) W := fun W => by
    have hs : (sizeOf (Tryd.prog.elem 29)).run Tryd.prog W = .ok 1 W := by kernel_rfl
    rw [run_slice_lh W 29 A n cap hu .i64 .i64 (s : Int) (m : Int) (by omega) (by omega) (by omega), hs]
    simp [Result.andThen, sliced]
  refine ⟨if cap = s then A else A.map (·.add s), fun W => ?_, h2, fun W B rs hl hs => ?_⟩
  · rw [run_sliceAt_slice W _ _ _ _ _ hu]; exact h2 W
  · have h3 := sees_cut (c := cap) (rows_take hs m) s (by simp; omega)
    rwa [← List.map_drop] at h3
/-- .. at their end -/
theorem rows_h (A : Option Addr) (n cap m : Nat) (hm : m ≤ cap) :
    (∀ W, (Instr.sliceAt 29 (.slice A n cap) none (some (.int .i64 (m : Int))) none).run Tryd.prog W = .ok (.slice A m cap) W) ∧
    (∀ W, (Instr.slice 29 (.slice A n cap) none (some (.int .i64 (m : Int))) none).run Tryd.prog W = .ok (.slice A m cap) W) := by
  have hu : Tryd.prog.underlying 29 = some (.slice (Tryd.prog.elem 29)) := by kernel_rfl
  have h2 : ∀ W, (Instr.slice 29 (.slice A n cap) none (some (.int .i64 (m : Int))) none).run Tryd.prog W = .ok (.slice A m cap) W := fun W => by
    have hs : (sizeOf (Tryd.prog.elem 29)).run Tryd.prog W = .ok 1 W := by kernel_rfl
    rw [run_slice_h W 29 A n cap hu .i64 (m : Int) (by omega) (by omega), hs]
    simp only [Result.andThen, sliced]
    congr 2
    · split
      · rfl
      · cases A <;> simp [Addr.add]
  exact ⟨fun W => by rw [run_sliceAt_slice W _ _ _ _ _ hu]; exact h2 W, h2⟩
theorem zz_cut (rs : List RowN) (m s : Nat) : zz ((rs.take m).drop s) = ((zz rs).take m).drop s := by unfold zz; rw [List.map_drop, List.map_take]
theorem zz_take (rs : List RowN) (m : Nat) : zz (rs.take m) = (zz rs).take m := by unfold zz; rw [List.map_take]

set_option maxRecDepth 100000 in
set_option maxHeartbeats 12800000 in
theorem phaseAccepts_walk (w : World) (hL : Lay w) (a0 : Option Addr) (len0 cap0 : Nat) (z0 : List RowN) (a1 : Int)
    (hl0 : z0.length = len0) (hc0 : len0 ≤ cap0) (hx0 : cap0 ≤ maxLen) (hs0 : Sees w w.heap.size a0 (z0.map RowN.val)) (hm0 : ∀ r ∈ z0, r.Ok .i64 w w.heap.size) (w1 : (Lit.int .u8 a1).wf = true) :
    Calls Tryd.prog 4 #[.slice a0 len0 cap0, .int .u8 a1] w fun e w' => e = .returned (.bool true) ∧ Below w.heap.size w w' := by
  have hat := bounds_u8 w1
  have HA : Hid (∀ W, Hid (Bw w W) → Calls Tryd.prog 8 #[] W (On w (.bool true))) := Lib.hid fun W hW => on_says hW (awake_any W (hL.bw hW.out))
  have K0 : Hid (Bw w w) := Lib.hid (Bw.refl w)
  by_cases hbig : 40 < len0
  · have g1 : (40 : Int) < (len0 : Int) := by omega
    clear hL hl0 hc0 hx0 hs0 hm0 hat w1
    go_enter Tryd.func4, Tryd.ntmps4
    go_wp2_with (go_at_call 8; refine (HA.out _ K0).mono ?_; rintro e w1 ⟨rfl, K1⟩)
    go_ret
    exact ⟨rfl, K1.out⟩
  · have g1 : ¬ (40 : Int) < (len0 : Int) := by omega
    have HLn := Lib.hid (by omega : len0 ≤ 40)
    have HM : Hid (∀ r ∈ z0, Sees w w.heap.size r.A (nums .i64 r.zs)) := Lib.hid fun r hr => (hm0 r hr).see
    have HF : Hid (∀ r W, r ∈ z0 → r.zs.length ≤ 70 → Hid (Bw w W) → Calls Tryd.prog 14 #[r.val] W (On w (.bool (ft r.zs)))) := Lib.hid fun r W h h70 hW => on_same hW (rFits_any r.zs r.A _ r.c W rfl (by omega) (sees_bw (HM.out r h) hW.out))
    have HG : Hid (∀ r s W, r ∈ z0 → s ∈ z0 → r.zs.length ≤ 70 → s.zs.length ≤ 70 → Bw w W → Calls Tryd.prog 16 #[r.val, s.val] W (Says W (.bool (fo r.zs s.zs)))) := Lib.hid fun r s W h h' h70 h70' hW =>
      rFollows_any r.zs s.zs r.A s.A _ r.c _ s.c W rfl rfl (by omega) (by omega) (sees_bw (HM.out r h) hW) (sees_bw (HM.out s h') hW)
    have HLay := Lib.hid hL
    have HS := Lib.hid hs0
    have HL := Lib.hid hl0
    have HC := Lib.hid hc0
    have HX := Lib.hid hx0
    have HLz : Hid ((zz z0).length = len0) := Lib.hid (by unfold zz; rw [List.length_map]; exact hl0)
    have HAt := Lib.hid hat
    have ta : IntKind.i64.wrap a1 = a1 := IntWalk.i64_in _ (by omega)
    clear hL hl0 hc0 hx0 hs0 hm0 hat w1
    go_enter Tryd.func4, Tryd.ntmps4
    go_wp2_with (go_at_call 8; refine (HA.out _ K0).mono ?_; rintro e w1 ⟨rfl, K1⟩)
    go_loopw [6, 7, 8] (fun a g b wr => ∃ (i m : Nat) (x : Bool), b = .int .i64 i ∧ a = .int .i64 m ∧ g = .bool x ∧ i ≤ len0 ∧ Hid (m ≤ i) ∧ Hid (Bw w wr) ∧ Hid (Cnt z0 i m x) ∧ Hid (∀ (t : Nat) r, t < i → z0[t]? = some r → r.zs.length ≤ 70)) (fun _ _ b _ => len0 - (intOf b).toNat)
    case atStart => exact ⟨0, 0, true, rfl, rfl, rfl, Nat.zero_le _, Lib.hid (Nat.le_refl _), K1, Lib.hid (Cnt.start z0), Lib.hid fun t r ht => by omega⟩
    case round =>
      clear K0 K1 HA
      obtain ⟨i, m, x, rfl, rfl, rfl, hi, hmi, K, hT, hQ⟩ := hrel
      by_cases hlt : i < len0
      · obtain ⟨r, hr⟩ : ∃ r, z0[i]? = some r := ⟨_, List.getElem?_eq_getElem (by rw [HL.out]; omega)⟩
        obtain ⟨b, o, rfl, hb, hcw⟩ := HS.out.at_ (k := i) (u := r.val) (by simp [hr])
        have hc := (K.out.cell (p := ⟨b, o + i, none⟩) hb).trans hcw
        have HRm := Lib.hid (List.mem_of_getElem? hr)
        have HR := Lib.hid hr
        have i1 : (i : Int) < (len0 : Int) := by omega
        have e3 : IntKind.i64.wrap ((i : Int) + 1) = ((i + 1 : Nat) : Int) := by rw [IntWalk.i64_in _ (by have := HLn.out; omega)]; rfl
        have e5 : IntKind.i64.wrap ((m : Int) + 1) = ((m + 1 : Nat) : Int) := by rw [IntWalk.i64_in _ (by have := HLn.out; have := hmi.out; omega)]; rfl
        obtain ⟨q, hq⟩ : ∃ q, r.zs.length = q := ⟨_, rfl⟩
        by_cases h70 : 70 < q
        · have g2 : (70 : Int) < (q : Int) := by omega
          unfold RowN.val at hc
          rw [hq] at hc
          clear hr hq
          go_wp2
          try rw [Exit.noGoto_ret]
          go_ret
          exact ⟨rfl, K.out⟩
        · have g2 : ¬ (70 : Int) < (q : Int) := by omega
          have h70' : r.zs.length ≤ 70 := by omega
          have HQ2 : Hid (∀ (t : Nat) r, t < i + 1 → z0[t]? = some r → r.zs.length ≤ 70) := Lib.hid fun t s ht hs => by
            by_cases e : t = i
            · subst e
              obtain rfl : r = s := Option.some.inj (HR.out.symm.trans hs)
              exact h70'
            · exact hQ.out t s (by omega) hs
          have HFr := Lib.hid (fun W hW => HF.out r W HRm.out h70' hW)
          have ways : (x = true ∧ gd (zz z0) i = true) ∨ (x = true ∧ gd (zz z0) i = false) ∨ x = false := by
            cases x
            · exact .inr (.inr rfl)
            · cases gd (zz z0) i
              · exact .inr (.inl ⟨rfl, rfl⟩)
              · exact .inl ⟨rfl, rfl⟩
          by_cases hi0 : i = 0
          · subst hi0
            rw [Nat.add_zero] at hc
            have hD := gd_zero hr
            unfold RowN.val at hc HFr
            simp only [hq] at hc HFr
            rw [← hD] at HFr
            clear hr hq hD HF HG HM
            rcases ways with ⟨rfl, hg⟩ | ⟨rfl, hg⟩ | rfl
            · have HG := Lib.hid hg
              rw [hg] at HFr
              clear hg
              go_wp2_with (go_at_call 14; refine (HFr.out _ K).mono ?_; rintro e w5 ⟨rfl, K5⟩)
              go_roundw
              case rel => exact ⟨0 + 1, m + 1, true, rfl, rfl, rfl, by omega, Lib.hid (by have := hmi.out; omega), K5, Lib.hid (hT.out.yes HG.out), HQ2⟩
              case measure => simp [intOf]; omega
            · have HG := Lib.hid hg
              rw [hg] at HFr
              clear hg
              go_wp2_with (go_at_call 14; refine (HFr.out _ K).mono ?_; rintro e w5 ⟨rfl, K5⟩)
              go_roundw
              case rel => exact ⟨0 + 1, m, false, rfl, rfl, rfl, by omega, Lib.hid (by have := hmi.out; omega), K5, Lib.hid (hT.out.no (by rw [HLz.out]; exact hlt) HG.out), HQ2⟩
              case measure => simp [intOf]; omega
            · generalize gd (zz z0) 0 = f at *
              go_wp2_with (go_at_call 14; refine (HFr.out _ K).mono ?_; rintro e w5 ⟨rfl, K5⟩)
              go_roundw
              case rel => exact ⟨0 + 1, m, false, rfl, rfl, rfl, by omega, Lib.hid (by have := hmi.out; omega), K5, Lib.hid hT.out.stay, HQ2⟩
              case measure => simp [intOf]; omega
          · obtain ⟨i', hii⟩ : ∃ i', i' + 1 = i := ⟨i - 1, by omega⟩
            obtain ⟨s, hs⟩ : ∃ s, z0[i']? = some s := ⟨_, List.getElem?_eq_getElem (by rw [HL.out]; omega)⟩
            obtain ⟨b2, o2, hab, hb2, hcw2⟩ := HS.out.at_ (k := i') (u := s.val) (by simp [hs])
            have hab' := Option.some.inj hab
            injection hab' with hb' ho'
            subst hb' ho'
            have hc2 := (K.out.cell (p := ⟨b, o + i', none⟩) hb).trans hcw2
            have hD : gd (zz z0) i = fo s.zs r.zs := by subst hii; exact gd_succ hs hr
            have h70s : s.zs.length ≤ 70 := hQ.out i' s (by omega) hs
            have HGr := Lib.hid (fun W hW => HG.out s r W (List.mem_of_getElem? hs) HRm.out h70s h70' hW)
            have e4 : IntKind.i64.wrap ((i : Int) - 1) = (i' : Int) := by rw [IntWalk.i64_in _ (by have := HLn.out; omega)]; omega
            have i2 : (0 : Int) < (i : Int) := by omega
            have i3 : (i' : Int) < (len0 : Int) := by omega
            have i4 : i' < len0 := by omega
            obtain ⟨q2, hq2⟩ : ∃ q2, s.zs.length = q2 := ⟨_, rfl⟩
            unfold RowN.val at hc hc2 HFr HGr hcw hcw2
            simp only [hq, hq2] at hc hc2 HFr HGr hcw hcw2
            have HC1 := Lib.hid (And.intro hcw hcw2)
            clear hcw hcw2
            rw [← hD] at HGr
            generalize ft r.zs = f0 at *
            clear hr hs hab hq hq2 hD HF HG HM hi0 hii h70s
            rcases ways with ⟨rfl, hg⟩ | ⟨rfl, hg⟩ | rfl
            · have HD := Lib.hid hg
              rw [hg] at HGr
              clear hg
              go_wp2_with (go_at_call 14; refine (HFr.out _ K).mono ?_; rintro e w5 ⟨rfl, K5⟩)
              have hjS : Hid (JS w5 [] w5) := Lib.hid (J.start w5)
              have HK5 := Lib.hid (And.intro (Nat.lt_of_lt_of_le hb K5.out.size) (And.intro ((K5.out.cell (p := ⟨b, o + i, none⟩) hb).trans HC1.out.1) ((K5.out.cell (p := ⟨b, o + i', none⟩) hb).trans HC1.out.2)))
              refine wp_region_all _ JS.closed hjS.out (by kernel_rfl) (by kernel_rfl) ?_
              apply Exists.intro
              refine ⟨fun w6 h6 => ?_, fun W7 hJ7 hb7 => ?_⟩
              · haveI := Ext.some h6
                have q0 := ext_old h6 (a := ⟨b, o + i, none⟩) HK5.out.1 HK5.out.2.1
                have q1 := ext_old h6 (a := ⟨b, o + i', none⟩) HK5.out.1 HK5.out.2.2
                have cM := Lib.hid (Ext.calls h6 JS.closed (fun W hW => HGr.out W (K5.out.next (J.below hW))))
                repeat go_big_quiet_step (first | (go_at_call 16; with_reducible exact cM.out _))
                exact wpQuiet_nil rfl
              · have K7 := Lib.hid (K5.out.next (J.below hJ7))
                clear hJ7 hb7
                go_wp2
                go_roundw
                case rel => exact ⟨i + 1, m + 1, true, rfl, rfl, rfl, by omega, Lib.hid (by have := hmi.out; omega), K7, Lib.hid (hT.out.yes HD.out), HQ2⟩
                case measure => simp [intOf]; omega
            · have HD := Lib.hid hg
              rw [hg] at HGr
              clear hg
              go_wp2_with (go_at_call 14; refine (HFr.out _ K).mono ?_; rintro e w5 ⟨rfl, K5⟩)
              have hjS : Hid (JS w5 [] w5) := Lib.hid (J.start w5)
              have HK5 := Lib.hid (And.intro (Nat.lt_of_lt_of_le hb K5.out.size) (And.intro ((K5.out.cell (p := ⟨b, o + i, none⟩) hb).trans HC1.out.1) ((K5.out.cell (p := ⟨b, o + i', none⟩) hb).trans HC1.out.2)))
              refine wp_region_all _ JS.closed hjS.out (by kernel_rfl) (by kernel_rfl) ?_
              apply Exists.intro
              refine ⟨fun w6 h6 => ?_, fun W7 hJ7 hb7 => ?_⟩
              · haveI := Ext.some h6
                have q0 := ext_old h6 (a := ⟨b, o + i, none⟩) HK5.out.1 HK5.out.2.1
                have q1 := ext_old h6 (a := ⟨b, o + i', none⟩) HK5.out.1 HK5.out.2.2
                have cM := Lib.hid (Ext.calls h6 JS.closed (fun W hW => HGr.out W (K5.out.next (J.below hW))))
                repeat go_big_quiet_step (first | (go_at_call 16; with_reducible exact cM.out _))
                exact wpQuiet_nil rfl
              · have K7 := Lib.hid (K5.out.next (J.below hJ7))
                clear hJ7 hb7
                go_wp2
                go_roundw
                case rel => exact ⟨i + 1, m, false, rfl, rfl, rfl, by omega, Lib.hid (by have := hmi.out; omega), K7, Lib.hid (hT.out.no (by rw [HLz.out]; exact hlt) HD.out), HQ2⟩
                case measure => simp [intOf]; omega
            · generalize gd (zz z0) i = f at *
              go_wp2_with (go_at_call 14; refine (HFr.out _ K).mono ?_; rintro e w5 ⟨rfl, K5⟩)
              have hjS : Hid (JS w5 [] w5) := Lib.hid (J.start w5)
              have HK5 := Lib.hid (And.intro (Nat.lt_of_lt_of_le hb K5.out.size) (And.intro ((K5.out.cell (p := ⟨b, o + i, none⟩) hb).trans HC1.out.1) ((K5.out.cell (p := ⟨b, o + i', none⟩) hb).trans HC1.out.2)))
              refine wp_region_all _ JS.closed hjS.out (by kernel_rfl) (by kernel_rfl) ?_
              apply Exists.intro
              refine ⟨fun w6 h6 => ?_, fun W7 hJ7 hb7 => ?_⟩
              · haveI := Ext.some h6
                have q0 := ext_old h6 (a := ⟨b, o + i, none⟩) HK5.out.1 HK5.out.2.1
                have q1 := ext_old h6 (a := ⟨b, o + i', none⟩) HK5.out.1 HK5.out.2.2
                have cM := Lib.hid (Ext.calls h6 JS.closed (fun W hW => HGr.out W (K5.out.next (J.below hW))))
                repeat go_big_quiet_step (first | (go_at_call 16; with_reducible exact cM.out _))
                exact wpQuiet_nil rfl
              · have K7 := Lib.hid (K5.out.next (J.below hJ7))
                clear hJ7 hb7
                go_wp2
                go_roundw
                case rel => exact ⟨i + 1, m, false, rfl, rfl, rfl, by omega, Lib.hid (by have := hmi.out; omega), K7, Lib.hid hT.out.stay, HQ2⟩
                case measure => simp [intOf]; omega
      · obtain rfl : i = len0 := by omega
        have hAc : Ac (zz z0) m := by
          have := HLz.out
          have hT' := hT.out
          rw [← this] at hT'
          exact hT'.end_
        have hacc : ∀ (rs : List RowN) (A' : Option Addr) (n' c' k : Nat), (∀ r ∈ rs, r ∈ z0) → rs.length = n' → n' ≤ 40 → Sees w w.heap.size A' (rs.map RowN.val) → Ac (zz rs) k →
            Hid (∀ W, Hid (Bw w W) → Calls Tryd.prog 17 #[.slice A' n' c'] W (On w (.int .i64 k))) := fun rs A' n' c' k hin hln h40 hsee hk => Lib.hid fun W hW =>
          on_says hW (Accept_any rs A' n' c' k W (HLay.out.bw hW.out) hln (by unfold maxLen; omega) (sees_bw hsee hW.out) (fun r hr => by
            obtain ⟨t, ht⟩ := List.getElem?_of_mem (hin r hr)
            have hlt2 := (List.getElem?_eq_some_iff.1 ht).1
            exact ⟨sees_bw (HM.out r (hin r hr)) hW.out, by have := hQ.out t r (by have := HL.out; omega) ht; unfold maxLen; omega⟩) hk)
        have hm40 : m ≤ 40 := by have := hmi.out; have := HLn.out; omega
        have hml : m ≤ i := hmi.out
        obtain ⟨q, hq⟩ : ∃ q : Nat, a1.toNat % (m + 1) = q := ⟨_, rfl⟩
        have hqm : q ≤ m := by have := Nat.mod_lt a1.toNat (show 0 < m + 1 by omega); omega
        obtain ⟨M1, hM1⟩ : ∃ M1 : Int, (m : Int) + 1 = M1 := ⟨_, rfl⟩
        have t1 : a1.tmod M1 = (q : Int) := by
          rw [← hM1, Int.tmod_eq_emod_of_nonneg HAt.out.1, ← hq]
          rw [Int.natCast_emod, Int.toNat_of_nonneg HAt.out.1]; rfl
        have t2 : IntKind.i64.wrap (q : Int) = (q : Int) := IntWalk.i64_in _ (by omega)
        have t3 : IntKind.i64.wrap ((m : Int) + 1) = M1 := by rw [hM1]; exact IntWalk.i64_in _ (by omega)
        have t4 : ¬ M1 = 0 := by omega
        obtain ⟨d, hd⟩ : ∃ d : Nat, m - q = d := ⟨_, rfl⟩
        have t5 : IntKind.i64.wrap ((m : Int) - (q : Int)) = (d : Int) := by rw [IntWalk.i64_in _ (by omega)]; omega
        obtain ⟨A3, s1, s2, s3⟩ := rows_lh a0 i cap0 q m hqm hml HC.out
        obtain ⟨s4, s5⟩ := rows_h a0 i cap0 q (by have := HC.out; omega)
        have H1 := hacc z0 a0 i cap0 m (fun r hr => hr) HL.out HLn.out HS.out hAc
        have H2 := hacc ((z0.take m).drop q) A3 d (cap0 - q) d (fun r hr => List.mem_of_mem_take (List.mem_of_mem_drop hr)) (by have := HL.out; simp; omega) (by omega) (s3 w w.heap.size z0 HL.out HS.out) (by rw [zz_cut, ← hd]; exact ac_cut hAc hqm)
        have H3 := hacc (z0.take q) a0 q cap0 q (fun r hr => List.mem_of_mem_take hr) (by have := HL.out; simp; omega) (by omega) (rows_take HS.out q) (by rw [zz_take]; exact ac_head hAc hqm)
        rw [hd] at s1 s2
        clear hacc s3 hq hqm hM1 hd hml hm40 hAc HF HG HM HLay HS HLz HAt hT hQ hmi HC HX
        go_wp2_with (first
          | (go_at_call 17; ((with_reducible refine (H1.out _ K).mono ?_); clear H1; rintro e w2 ⟨rfl, K2⟩))
          | (go_at_call 17; ((with_reducible refine (H2.out _ K2).mono ?_); clear H2; rintro e w3 ⟨rfl, K3⟩))
          | (go_at_call 17; ((with_reducible refine (H3.out _ K3).mono ?_); clear H3; rintro e w4 ⟨rfl, K4⟩)))
        go_ret
        exact ⟨rfl, K4.out⟩
end Go.Proofs.YtdmihhjbbodjoaaDoor.Walk
