/- The walk of MendFirst. -/
import Derived.Test.YtjedkkkhficmoaaDoorMndX
import Derived.Test.YtjedkkkhficmoaaDoorSeesN
import Derived.LoopN
import Derived.BigQuiet
namespace Go.Proofs.YtjedkkkhficmoaaDoor.Walk
open Go.RowKit Go.Proofs.YtjedkkkhficmoaaDoor.SatP Go.Proofs.YtjedkkkhficmoaaDoor.LgrP Go.Proofs.YtjedkkkhficmoaaDoor.MndP Go.Proofs.YtjedkkkhficmoaaDoor.Mnd Go.Proofs.YtjedkkkhficmoaaDoor.Open Go.Proofs.YtjedkkkhficmoaaDoor.Sees Go.Proofs.YtjedkkkhficmoaaDoor.Box Go.Proofs.YtjedkkkhficmoaaDoor.Held Go.Proofs.YtjedkkkhficmoaaDoor.Jrn Go.Proofs.YtjedkkkhficmoaaDoor.Crc
set_option linter.unusedVariables false
set_option linter.unusedSimpArgs false
set_option maxRecDepth 100000

theorem info_mv : (Tryd.prog.info? 28).map (fun i => (i.zero, i.size, i.bytes)) = some (some (.agg #[.int .i64 0, .int .i64 0]), 2, 16) := by kernel_rfl
theorem mvs_len (l : List Mv) : (mvs l).length = l.length * 2 := by
  induction l with
  | nil => rfl
  | cons p l ih => simp only [mvs, List.map_cons, List.flatten_cons, List.length_append, List.length_cons] at *; rw [ih]; simp [Mv.cells]; omega
theorem mvs_append (l r : List Mv) : mvs (l ++ r) = mvs l ++ mvs r := by simp [mvs]
theorem mvs_one (l : List Mv) : ∀ u ∈ mvs l, u.oneCell' = true := by
  intro u hu
  unfold mvs at hu
  obtain ⟨r, hr, hu⟩ := List.mem_flatten.1 hu
  obtain ⟨p, _, rfl⟩ := List.mem_map.1 hr
  simp [Mv.cells] at hu
  rcases hu with rfl | rfl <;> rfl
/-- a world of the call's own memory -/
structure BW (w W : World) : Prop where
  bel : Below w.heap.size w W
theorem BW.next {w W W' : World} (h : BW w W) (hb : Below W.heap.size W W') : BW w W' := ⟨h.bel.trans (hb.mono h.bel.size)⟩
theorem own_slice {W : World} {base : Nat} {e : TypeId} {size : Nat} {v : Value} {n m : Nat} {xs : List Value} (h : W.ownsRow base e size v n xs) (hn : n = m) : ∃ A c, v = .slice A m c := by
  subst hn
  rcases h.2 with ⟨rfl, h0⟩ | ⟨g, cap, cur, rfl, _⟩
  · exact ⟨none, 0, by rw [h0]⟩
  · exact ⟨_, _, rfl⟩
theorem neq_pm (c p : Int) : ∀ W, (Go.binOp .neq 54 (.agg #[.int .i64 c, .int .i64 p]) (.agg #[.int .i64 c, .int .i64 p])).run Tryd.prog W = .ok (.bool false) W := by
  intro W
  simp [go_sem, Tryd.underlying54, Tryd.underlying3]

set_option maxHeartbeats 51200000 in
theorem mendFirst_walk (w : World) (ht : Tab w) (a1 : Option Addr) (n1 cp1 : Nat) (l : List Mv) (a2 : Option Addr) (n2 cp2 : Nat) (more : List Mv) (bud : Int) (hl1 : l.length = n1) (hc1 : n1 ≤ cp1) (hx1 : cp1 ≤ maxLen) (hs1 : Sees w w.heap.size a1 (mvs l)) (hl2 : more.length = n2) (hc2 : n2 ≤ cp2) (hx2 : cp2 ≤ maxLen) (hs2 : Sees w w.heap.size a2 (mvs more)) (hw : (Lit.int .i64 bud).wf = true) :
    Calls Tryd.prog 6 #[.slice a1 n1 cp1, .slice a2 n2 cp2, .int .i64 bud] w fun e w' => e = .returned (.bool true) ∧ Below w.heap.size w w' := by
  have TB_0 := Lib.hid ht
  have BE_0 : Hid (BW w w) := Lib.hid (BW.mk (Below.refl _ _))
  have VA_0 := Lib.hid (VI.mk hl1 hc1 hx1 hs1)
  have VB_0 := Lib.hid (VI.mk hl2 hc2 hx2 hs2)
  have HV1 := Lib.hid hl1
  have HV2 := Lib.hid hl2
  clear ht hl1 hc1 hx1 hs1 hl2 hc2 hx2 hs2 hw
  by_cases hfew : n1 ≤ 100 ∧ n2 ≤ 100
  · obtain ⟨h1, h2⟩ := hfew
    have f1 : decide (n1 ≤ 100) = true := decide_eq_true h1
    have f2 : decide (n2 ≤ 100) = true := decide_eq_true h2
    have HN := Lib.hid (And.intro h1 h2)
    obtain ⟨i0, hi, hz0, hz1, hz2⟩ := info_parts info_mv
    obtain ⟨cb, hcb⟩ : ∃ cb, cut bud = cb := ⟨_, rfl⟩
    obtain ⟨x, hx⟩ : ∃ x, run [] cb l = x := ⟨_, rfl⟩
    obtain ⟨y, hy⟩ : ∃ y, run [] cb (l ++ more) = y := ⟨_, rfl⟩
    have hpre := run_append [] cb l more
    rw [hx, hy] at hpre
    have HP := Lib.hid hpre
    have HCB := Lib.hid hcb
    have HX1 := Lib.hid hx
    have HX2 := Lib.hid hy
    have HF := Lib.hid (And.intro (ok_run [] cb l).few_l (And.intro (ok_run [] cb l).few_s (And.intro (ok_run [] cb (l ++ more)).few_l (ok_run [] cb (l ++ more)).few_s)))
    rw [hx, hy] at HF
    obtain ⟨nx, hnx⟩ : ∃ n, x.l.length = n := ⟨_, rfl⟩
    obtain ⟨sx, hsx⟩ : ∃ n, x.s.length = n := ⟨_, rfl⟩
    obtain ⟨ny, hny⟩ : ∃ n, y.l.length = n := ⟨_, rfl⟩
    obtain ⟨sy, hsy⟩ : ∃ n, y.s.length = n := ⟨_, rfl⟩
    have hle1 : nx ≤ ny := by obtain ⟨⟨r, hr⟩, _⟩ := hpre; rw [← hnx, ← hny, hr, List.length_append]; omega
    have hle2 : sx ≤ sy := by obtain ⟨_, r, hr⟩ := hpre; rw [← hsx, ← hsy, hr, List.length_append]; omega
    have g1 : ¬ (ny : Int) < (nx : Int) := by omega
    have g2 : ¬ (sy : Int) < (sx : Int) := by omega
    have HS := Lib.hid (And.intro hnx (And.intro hsx (And.intro hny hsy)))
    have HNX := Lib.hid hnx
    have HSX := Lib.hid hsx
    have HNY := Lib.hid hny
    have HSY := Lib.hid hsy
    have HLE := Lib.hid (And.intro hle1 hle2)
    clear hx hy hcb hpre h1 h2 hnx hny hsx hsy hle1 hle2
    go_enter Tryd.func6, Tryd.ntmps6
    go_wp2_with (first
      | (go_at_call 7; (refine (Mnd.awake_any _ TB_0.out).mono ?_; rintro e w1 ⟨rfl, h1⟩; have TB_1 := Lib.hid (TB_0.out.next h1); have BE_1 := Lib.hid (BE_0.out.next h1); have VA_1 := Lib.hid (VA_0.out.next h1); have VB_1 := Lib.hid (VB_0.out.next h1); clear TB_0 BE_0 VA_0 VB_0 h1))
      | (go_at_call 8; (refine (mFew_any a1 n1 cp1 _).mono ?_; rintro e w2 ⟨rfl, h2⟩; have TB_2 := Lib.hid (TB_1.out.next h2); have BE_2 := Lib.hid (BE_1.out.next h2); have VA_2 := Lib.hid (VA_1.out.next h2); have VB_2 := Lib.hid (VB_1.out.next h2); rw [f1]; clear TB_1 BE_1 VA_1 VB_1 h2))
      | (go_at_call 8; (refine (mFew_any a2 n2 cp2 _).mono ?_; rintro e w3 ⟨rfl, h3⟩; have TB_3 := Lib.hid (TB_2.out.next h3); have BE_3 := Lib.hid (BE_2.out.next h3); have VA_3 := Lib.hid (VA_2.out.next h3); have VB_3 := Lib.hid (VB_2.out.next h3); rw [f2]; clear TB_2 BE_2 VA_2 VB_2 h3))
      | (at_builtin; refine wpList_append_seesN _ rfl _ _ 23 rfl w3.heap.size 28 i0 (.agg #[.int .i64 0, .int .i64 0]) 2 16 Tryd.underlying23 hi hz0 hz1 hz2 rfl (by decide) _ _ _ rfl (World.ownsRow_nil _ _ _ _) w3.heap.size a1 n1 cp1 (mvs l) rfl (by rw [mvs_len, HV1.out]) VA_3.out.see (mvs_one _) (by have := HN.out; unfold maxLen; omega) (by have := HN.out; omega) (Nat.le_refl _) ?_; intro v4 w4 hown4 hg4; have HO4 := Lib.hid hown4; have hb4 := hg4.below (B := w3.heap.size) (Nat.le_refl _) (by intro g hg'; simp [Value.ownBlock, go_sem] at hg'); clear hown4 hg4; have TB_9 := Lib.hid (TB_3.out.next hb4); have BE_9 := Lib.hid (BE_3.out.next hb4); have VA_9 := Lib.hid (VA_3.out.next hb4); have VB_9 := Lib.hid (VB_3.out.next hb4); have HB4 := Lib.hid hb4; clear hb4)
      | (at_builtin; refine wpList_append_seesN _ rfl _ _ 23 rfl w3.heap.size 28 i0 (.agg #[.int .i64 0, .int .i64 0]) 2 16 Tryd.underlying23 hi hz0 hz1 hz2 rfl (by decide) _ _ _ rfl HO4.out w3.heap.size a2 n2 cp2 (mvs more) rfl (by rw [mvs_len, HV2.out]) (VB_3.out.see.below HB4.out (Nat.le_refl _)) (mvs_one _) (by have := HN.out; unfold maxLen; omega) (by have := HN.out; omega) HB4.out.size ?_; intro v5 w5 hown5 hg5; obtain ⟨A3, c3, rfl⟩ := own_slice (m := n1 + n2) hown5 (by omega); have hown6 : w5.ownsRow w3.heap.size 28 2 (.slice A3 (n1 + n2) c3) (n1 + n2) (mvs l ++ mvs more) := (by simpa using hown5); have hcc := own_cap hown6; have VC_9 := Lib.hid (VI.mk (W := w5) (A := A3) (c := c3) (n := n1 + n2) (l := l ++ more) (by rw [List.length_append, HV1.out, HV2.out]) (by omega) hcc.2 (by rw [mvs_append]; exact (TS.own hown6).sees)); have hb5 : Below w3.heap.size w3 w5 := HB4.out.grown hg5.by_ HB4.out.size (fun g e => (HO4.out.lt g e).1); clear hown5 hown6 hg5 hcc TB_9 BE_9 VA_9 VB_9; have TB_9 := Lib.hid (TB_3.out.next hb5); have BE_9 := Lib.hid (BE_3.out.next hb5); have VA_9 := Lib.hid (VA_3.out.next hb5); clear HO4 HB4 hb5)
      | (go_at_call 10; (refine (from_nil _).mono ?_; rintro e w20 ⟨⟨⟨A20, c20, q20⟩, ⟨A21, c21, q21⟩, ⟨A22, c22, q22⟩, ⟨A23, c23, q23⟩⟩, rfl, hi20, hb20, h20⟩; have TB_10 := Lib.hid (TB_9.out.next h20); have BE_10 := Lib.hid (BE_9.out.next h20); have VA_10 := Lib.hid (VA_9.out.next h20); have VC_10 := Lib.hid (VC_9.out.next h20); have JI_0 := Lib.hid hi20; have HB20 := Lib.hid (And.intro hb20.1 hb20.2.1); clear hb20 hi20; simp only [Jr.val, Jr.arr, RowV.val]; clear TB_9 BE_9 VA_9 VC_9 h20))
      | (go_at_call 9; (refine (again_nil ⟨⟨A20, c20, q20⟩, ⟨A21, c21, q21⟩, ⟨A22, c22, q22⟩, ⟨A23, c23, q23⟩⟩ TB_10.out JI_0.out HB20.out VA_10.out (by have := HN.out; omega) bud HCB.out HX1.out HNX.out HSX.out).mono ?_; rintro e w21 ⟨A25, c25, A26, c26, rfl, hl20, hn20, h21⟩; have TB_11 := Lib.hid ((TB_10.out.next h21).next (below_box (o := .cells #[.int .i64 cb, .int .i64 0, .int .i64 0, .slice A25 nx c25] 32))); have BE_11 := Lib.hid ((BE_10.out.next h21).next (below_box (o := .cells #[.int .i64 cb, .int .i64 0, .int .i64 0, .slice A25 nx c25] 32))); have VA_11 := Lib.hid ((VA_10.out.next h21).next (below_box (o := .cells #[.int .i64 cb, .int .i64 0, .int .i64 0, .slice A25 nx c25] 32))); have VC_11 := Lib.hid ((VC_10.out.next h21).next (below_box (o := .cells #[.int .i64 cb, .int .i64 0, .int .i64 0, .slice A25 nx c25] 32))); have JI_1 := Lib.hid ((JI_0.out.next h21).next (below_box (o := .cells #[.int .i64 cb, .int .i64 0, .int .i64 0, .slice A25 nx c25] 32))); have LI2_0 := Lib.hid (hl20.next (below_box (o := .cells #[.int .i64 cb, .int .i64 0, .int .i64 0, .slice A25 nx c25] 32))); have NI2_0 := Lib.hid (hn20.next (below_box (o := .cells #[.int .i64 cb, .int .i64 0, .int .i64 0, .slice A25 nx c25] 32))); have BX2_0 := Lib.hid (BxT.new w21 #[.int .i64 cb, .int .i64 0, .int .i64 0, .slice A25 nx c25] 32); clear hl20 hn20; clear TB_10 BE_10 VA_10 VC_10 JI_0 h21; obtain ⟨x20, x21, x22, x23⟩ := BX2_0.out.bx.c4))
      | (go_at_call 10; (refine (from_nil _).mono ?_; rintro e w40 ⟨⟨⟨A40, c40, q40⟩, ⟨A41, c41, q41⟩, ⟨A42, c42, q42⟩, ⟨A43, c43, q43⟩⟩, rfl, hi40, hb40, h40⟩; have TB_12 := Lib.hid (TB_11.out.next h40); have BE_12 := Lib.hid (BE_11.out.next h40); have VA_12 := Lib.hid (VA_11.out.next h40); have VC_12 := Lib.hid (VC_11.out.next h40); have LI2_1 := Lib.hid (LI2_0.out.next h40); have NI2_1 := Lib.hid (NI2_0.out.next h40); have BX2_1 := Lib.hid (BX2_0.out.next h40); have JI_0 := Lib.hid hi40; have HB40 := Lib.hid (And.intro hb40.1 hb40.2.1); clear hb40 hi40; simp only [Jr.val, Jr.arr, RowV.val]; clear TB_11 BE_11 VA_11 VC_11 LI2_0 NI2_0 BX2_0 h40; obtain ⟨x20, x21, x22, x23⟩ := BX2_1.out.bx.c4))
      | (go_at_call 9; (refine (again_nil ⟨⟨A40, c40, q40⟩, ⟨A41, c41, q41⟩, ⟨A42, c42, q42⟩, ⟨A43, c43, q43⟩⟩ TB_12.out JI_0.out HB40.out VC_12.out (by have := HN.out; omega) bud HCB.out HX2.out HNY.out HSY.out).mono ?_; rintro e w41 ⟨A45, c45, A46, c46, rfl, hl40, hn40, h41⟩; have TB_13 := Lib.hid ((TB_12.out.next h41).next (below_box (o := .cells #[.int .i64 cb, .int .i64 0, .int .i64 0, .slice A45 ny c45] 32))); have BE_13 := Lib.hid ((BE_12.out.next h41).next (below_box (o := .cells #[.int .i64 cb, .int .i64 0, .int .i64 0, .slice A45 ny c45] 32))); have VA_13 := Lib.hid ((VA_12.out.next h41).next (below_box (o := .cells #[.int .i64 cb, .int .i64 0, .int .i64 0, .slice A45 ny c45] 32))); have VC_13 := Lib.hid ((VC_12.out.next h41).next (below_box (o := .cells #[.int .i64 cb, .int .i64 0, .int .i64 0, .slice A45 ny c45] 32))); have LI2_2 := Lib.hid ((LI2_1.out.next h41).next (below_box (o := .cells #[.int .i64 cb, .int .i64 0, .int .i64 0, .slice A45 ny c45] 32))); have NI2_2 := Lib.hid ((NI2_1.out.next h41).next (below_box (o := .cells #[.int .i64 cb, .int .i64 0, .int .i64 0, .slice A45 ny c45] 32))); have BX2_2 := Lib.hid ((BX2_1.out.next h41).next (below_box (o := .cells #[.int .i64 cb, .int .i64 0, .int .i64 0, .slice A45 ny c45] 32))); have JI_1 := Lib.hid ((JI_0.out.next h41).next (below_box (o := .cells #[.int .i64 cb, .int .i64 0, .int .i64 0, .slice A45 ny c45] 32))); have LI4_0 := Lib.hid (hl40.next (below_box (o := .cells #[.int .i64 cb, .int .i64 0, .int .i64 0, .slice A45 ny c45] 32))); have NI4_0 := Lib.hid (hn40.next (below_box (o := .cells #[.int .i64 cb, .int .i64 0, .int .i64 0, .slice A45 ny c45] 32))); have BX4_0 := Lib.hid (BxT.new w41 #[.int .i64 cb, .int .i64 0, .int .i64 0, .slice A45 ny c45] 32); clear hl40 hn40; clear TB_12 BE_12 VA_12 VC_12 LI2_1 NI2_1 BX2_1 JI_0 h41; obtain ⟨x20, x21, x22, x23⟩ := BX2_2.out.bx.c4; obtain ⟨x40, x41, x42, x43⟩ := BX4_0.out.bx.c4)))
    clear x20 x21 x22 x23 x40 x41 x42 x43
    have HA : Hid (∀ W, Below ((w41.alloc (.cells #[.int .i64 cb, .int .i64 0, .int .i64 0, .slice A45 ny c45] 32))).heap.size (w41.alloc (.cells #[.int .i64 cb, .int .i64 0, .int .i64 0, .slice A45 ny c45] 32)) W → (BxT W w21.heap.size #[.int .i64 cb, .int .i64 0, .int .i64 0, .slice A25 nx c25] 32 ∧ BxT W w41.heap.size #[.int .i64 cb, .int .i64 0, .int .i64 0, .slice A45 ny c45] 32) ∧ (LI W A25 c25 nx x.l ∧ LI W A45 c45 ny y.l) ∧ (NI W A26 c26 sx x.s ∧ NI W A46 c46 sy y.s) ∧ BW w W) := Lib.hid fun W hW => ⟨⟨BX2_2.out.next hW, BX4_0.out.next hW⟩, ⟨LI2_2.out.next hW, LI4_0.out.next hW⟩, ⟨NI2_2.out.next hW, NI4_0.out.next hW⟩, BE_13.out.next hW⟩
    have hmx : Tryd.prog.follows .mixedOrders = true := by kernel_rfl
    go_loopw [15] (fun i wr => ∃ k : Nat, k ≤ nx ∧ i = .int .i64 k ∧ Hid (Below ((w41.alloc (.cells #[.int .i64 cb, .int .i64 0, .int .i64 0, .slice A45 ny c45] 32))).heap.size (w41.alloc (.cells #[.int .i64 cb, .int .i64 0, .int .i64 0, .slice A45 ny c45] 32)) wr)) (fun i _ => nx - (intOf i).toNat)
    case atStart => exact ⟨0, Nat.zero_le _, rfl, Lib.hid (Below.refl _ _)⟩
    case round =>
      obtain ⟨k, hk, rfl, hbr⟩ := hrel
      have HR := Lib.hid (HA.out wr hbr.out)
      obtain ⟨a0, a1', a2', a3⟩ := HR.out.1.1.bx.c4
      obtain ⟨b0, b1, b2, b3⟩ := HR.out.1.2.bx.c4
      by_cases hlt : k < nx
      · have hkx : k < x.l.length := by rw [HNX.out]; exact hlt
        have hp := List.getElem?_eq_getElem hkx
        have hq : y.l[k]? = some x.l[k] := by obtain ⟨⟨r, hr⟩, _⟩ := HP.out; rw [hr, List.getElem?_append_left hkx]; exact hp
        obtain ⟨u1, o1, e1, hu1, c0, c1⟩ := pm_cells HR.out.2.1.1.see k _ hp
        obtain ⟨u2, o2, e2, hu2, d0, d1⟩ := pm_cells HR.out.2.1.2.see k _ hq
        generalize x.l[k] = pm at c0 c1 d0 d1
        obtain ⟨pc, pp⟩ := pm
        simp only at c0 c1 d0 d1
        subst e1 e2
        have i1 : (k : Int) < (nx : Int) := by omega
        have i2 : (k : Int) < (ny : Int) := by have := HLE.out; omega
        have e3 : IntKind.i64.wrap ((k : Int) + 1) = ((k + 1 : Nat) : Int) := by have := HF.out; rw [IntWalk.i64_in _ (by have := HNX.out; omega)]; rfl
        have nq := neq_pm pc pp
        have hjS : Hid (JS wr [] wr) := Lib.hid (J.start wr)
        have hX1 := HR.out.1.1.bx.lt
        have hX2 := HR.out.1.2.bx.lt
        have HLT := Lib.hid hlt
        have HX := Lib.hid (And.intro hX1 (And.intro hX2 (And.intro hu1 hu2)))
        clear hp hq hkx hlt a0 a1' a2' b0 b1 b2 hX1 hX2 hu1 hu2 HR
        go_wp2
        refine wp_region_all _ JS.closed hjS.out hmx (by kernel_rfl) ?_
        apply Exists.intro
        refine ⟨fun w50 h50 => ?_, fun W1 hJ1 hB1 => ?_⟩
        · haveI := Ext.some h50
          have q0 := ext_old h50 (a := ⟨w21.heap.size, 3, none⟩) HX.out.1 a3
          have q1 := ext_old h50 (a := ⟨w41.heap.size, 3, none⟩) HX.out.2.1 b3
          have q2 := ext_old h50 (a := ⟨u1, o1 + k * 2, none⟩) HX.out.2.2.1 c0
          have q3 := ext_old h50 (a := ⟨u1, o1 + k * 2 + 1, none⟩) HX.out.2.2.1 c1
          have q4 := ext_old h50 (a := ⟨u2, o2 + k * 2, none⟩) HX.out.2.2.2 d0
          have q5 := ext_old h50 (a := ⟨u2, o2 + k * 2 + 1, none⟩) HX.out.2.2.2 d1
          repeat go_big_quiet_step (fail)
          exact wpQuiet_nil rfl
        have hb1 := Lib.hid (hbr.out.trans (hB1.mono hbr.out.size))
        clear hJ1 hB1 hjS hbr c0 c1 d0 d1 a3 b3
        go_wp2
        go_roundw
        case rel => exact ⟨k + 1, HLT.out, rfl, hb1⟩
        case measure => have := HLT.out; simp [intOf]; omega
      · obtain rfl : k = nx := by omega
        clear HR
        go_wp2
        go_loopw [16] (fun i w2r => ∃ j : Nat, j ≤ sx ∧ i = .int .i64 j ∧ Hid (Below ((w41.alloc (.cells #[.int .i64 cb, .int .i64 0, .int .i64 0, .slice A45 ny c45] 32))).heap.size (w41.alloc (.cells #[.int .i64 cb, .int .i64 0, .int .i64 0, .slice A45 ny c45] 32)) w2r)) (fun i _ => sx - (intOf i).toNat)
        case atStart => exact ⟨0, Nat.zero_le _, rfl, hbr⟩
        case round =>
          clear hbr a0 a1' a2' a3 b0 b1 b2 b3
          obtain ⟨j, hj, rfl, hbr⟩ := hrel
          have HR := Lib.hid (HA.out _ hbr.out)
          by_cases hlt2 : j < sx
          · have hjx : j < x.s.length := by rw [HSX.out]; exact hlt2
            have hp := List.getElem?_eq_getElem hjx
            have hq : y.s[j]? = some x.s[j] := by obtain ⟨_, r, hr⟩ := HP.out; rw [hr, List.getElem?_append_left hjx]; exact hp
            obtain ⟨u1, o1, e1, hu1, c0⟩ := HR.out.2.2.1.1.see.at_ (k := j) (u := .int .i64 x.s[j]) (by simp [nums, hp])
            obtain ⟨u2, o2, e2, hu2, d0⟩ := HR.out.2.2.1.2.see.at_ (k := j) (u := .int .i64 x.s[j]) (by simp [nums, hq])
            generalize x.s[j] = z at c0 d0
            subst e1 e2
            have i1 : (j : Int) < (sx : Int) := by omega
            have i2 : (j : Int) < (sy : Int) := by have := HLE.out; omega
            have e3 : IntKind.i64.wrap ((j : Int) + 1) = ((j + 1 : Nat) : Int) := by have := HF.out; rw [IntWalk.i64_in _ (by have := HSX.out; omega)]; rfl
            have hjS : Hid (JS wr [] wr) := Lib.hid (J.start wr)
            have HLT := Lib.hid hlt2
            have HX := Lib.hid (And.intro hu1 hu2)
            clear hp hq hjx hlt2 hu1 hu2 HR
            go_wp2
            refine wp_region_all _ JS.closed hjS.out hmx (by kernel_rfl) ?_
            apply Exists.intro
            refine ⟨fun w50 h50 => ?_, fun W1 hJ1 hB1 => ?_⟩
            · haveI := Ext.some h50
              have q2 := ext_old h50 (a := ⟨u1, o1 + j, none⟩) HX.out.1 c0
              have q4 := ext_old h50 (a := ⟨u2, o2 + j, none⟩) HX.out.2 d0
              repeat go_big_quiet_step (fail)
              exact wpQuiet_nil rfl
            have hb1 := Lib.hid (hbr.out.trans (hB1.mono hbr.out.size))
            clear hJ1 hB1 hjS hbr c0 d0
            go_wp2
            go_roundw
            case rel => exact ⟨j + 1, HLT.out, rfl, hb1⟩
            case measure => have := HLT.out; simp [intOf]; omega
          · obtain rfl : j = sx := by omega
            clear HR
            have HE := Lib.hid (HA.out _ hbr.out).2.2.2.bel
            go_wp2
            go_ret
            exact ⟨rfl, HE.out⟩
  · rcases hc : decide (n1 ≤ 100) with _ | _
    · have f1 := hc
      obtain ⟨bv, f2⟩ : ∃ bv, decide (n2 ≤ 100) = bv := ⟨_, rfl⟩
      clear hfew hc
      go_enter Tryd.func6, Tryd.ntmps6
      go_wp2_with (first
          | (go_at_call 7; (refine (Mnd.awake_any _ TB_0.out).mono ?_; rintro e w1 ⟨rfl, h1⟩; have TB_1 := Lib.hid (TB_0.out.next h1); have BE_1 := Lib.hid (BE_0.out.next h1); have VA_1 := Lib.hid (VA_0.out.next h1); have VB_1 := Lib.hid (VB_0.out.next h1); clear TB_0 BE_0 VA_0 VB_0 h1))
          | (go_at_call 8; (refine (mFew_any a1 n1 cp1 _).mono ?_; rintro e w2 ⟨rfl, h2⟩; have TB_2 := Lib.hid (TB_1.out.next h2); have BE_2 := Lib.hid (BE_1.out.next h2); have VA_2 := Lib.hid (VA_1.out.next h2); have VB_2 := Lib.hid (VB_1.out.next h2); rw [f1]; clear TB_1 BE_1 VA_1 VB_1 h2))
          | (go_at_call 8; (refine (mFew_any a2 n2 cp2 _).mono ?_; rintro e w3 ⟨rfl, h3⟩; have TB_3 := Lib.hid (TB_2.out.next h3); have BE_3 := Lib.hid (BE_2.out.next h3); have VA_3 := Lib.hid (VA_2.out.next h3); have VB_3 := Lib.hid (VB_2.out.next h3); rw [f2]; clear TB_2 BE_2 VA_2 VB_2 h3)))
      go_ret
      exact ⟨rfl, BE_3.out.bel⟩
    · have f1 := hc
      have f2 : decide (n2 ≤ 100) = false := decide_eq_false fun h => hfew ⟨of_decide_eq_true hc, h⟩
      clear hfew hc
      go_enter Tryd.func6, Tryd.ntmps6
      go_wp2_with (first
          | (go_at_call 7; (refine (Mnd.awake_any _ TB_0.out).mono ?_; rintro e w1 ⟨rfl, h1⟩; have TB_1 := Lib.hid (TB_0.out.next h1); have BE_1 := Lib.hid (BE_0.out.next h1); have VA_1 := Lib.hid (VA_0.out.next h1); have VB_1 := Lib.hid (VB_0.out.next h1); clear TB_0 BE_0 VA_0 VB_0 h1))
          | (go_at_call 8; (refine (mFew_any a1 n1 cp1 _).mono ?_; rintro e w2 ⟨rfl, h2⟩; have TB_2 := Lib.hid (TB_1.out.next h2); have BE_2 := Lib.hid (BE_1.out.next h2); have VA_2 := Lib.hid (VA_1.out.next h2); have VB_2 := Lib.hid (VB_1.out.next h2); rw [f1]; clear TB_1 BE_1 VA_1 VB_1 h2))
          | (go_at_call 8; (refine (mFew_any a2 n2 cp2 _).mono ?_; rintro e w3 ⟨rfl, h3⟩; have TB_3 := Lib.hid (TB_2.out.next h3); have BE_3 := Lib.hid (BE_2.out.next h3); have VA_3 := Lib.hid (VA_2.out.next h3); have VB_3 := Lib.hid (VB_2.out.next h3); rw [f2]; clear TB_2 BE_2 VA_2 VB_2 h3)))
      go_ret
      exact ⟨rfl, BE_3.out.bel⟩

end Go.Proofs.YtjedkkkhficmoaaDoor.Walk
