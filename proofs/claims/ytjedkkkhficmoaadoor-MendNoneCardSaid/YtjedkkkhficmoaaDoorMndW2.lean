/- The walk of MendNone. -/
import Derived.Test.YtjedkkkhficmoaaDoorMndX
import Derived.LoopN
import Derived.BigQuiet
namespace Go.Proofs.YtjedkkkhficmoaaDoor.Walk
open Go.RowKit Go.Proofs.YtjedkkkhficmoaaDoor.SatP Go.Proofs.YtjedkkkhficmoaaDoor.LgrP Go.Proofs.YtjedkkkhficmoaaDoor.MndP Go.Proofs.YtjedkkkhficmoaaDoor.Mnd Go.Proofs.YtjedkkkhficmoaaDoor.Open Go.Proofs.YtjedkkkhficmoaaDoor.Sees Go.Proofs.YtjedkkkhficmoaaDoor.Box Go.Proofs.YtjedkkkhficmoaaDoor.Held Go.Proofs.YtjedkkkhficmoaaDoor.Jrn Go.Proofs.YtjedkkkhficmoaaDoor.Crc
set_option linter.unusedVariables false
set_option linter.unusedSimpArgs false
set_option maxRecDepth 100000

/-- a world of the call's own memory -/
structure BN (w W : World) : Prop where
  bel : Below w.heap.size w W
theorem BN.next {w W W' : World} (h : BN w W) (hb : Below W.heap.size W W') : BN w W' := ⟨h.bel.trans (hb.mono h.bel.size)⟩

set_option maxHeartbeats 51200000 in
theorem mendNone_walk (w : World) (ht : Tab w) (a0 : Option Addr) (m0 cp0 : Nat) (za : List Int) (a9 : Option Addr) (m9 cp9 : Nat) (zb : List Int) (a1 : Option Addr) (n1 cp1 : Nat) (l : List Mv) (bud : Int) (hla : za.length = m0) (hca : m0 ≤ cp0) (hxa : cp0 ≤ maxLen) (hsa : Sees w w.heap.size a0 (nums .u8 za)) (hwa : ∀ x ∈ za, (Lit.int .u8 x).wf = true)
    (hlb : zb.length = m9) (hcb9 : m9 ≤ cp9) (hxb : cp9 ≤ maxLen) (hsb : Sees w w.heap.size a9 (nums .u8 zb)) (hwb : ∀ x ∈ zb, (Lit.int .u8 x).wf = true) (hl1 : l.length = n1) (hc1 : n1 ≤ cp1) (hx1 : cp1 ≤ maxLen) (hs1 : Sees w w.heap.size a1 (mvs l)) (hw : (Lit.int .i64 bud).wf = true) :
    Calls Tryd.prog 5 #[.slice a0 m0 cp0, .slice a9 m9 cp9, .slice a1 n1 cp1, .int .i64 bud] w fun e w' => e = .returned (.bool true) ∧ Below w.heap.size w w' := by
  have TB_0 := Lib.hid ht
  have BE_0 : Hid (BN w w) := Lib.hid (BN.mk (Below.refl _ _))
  have VA_0 := Lib.hid (VI.mk hl1 hc1 hx1 hs1)
  have BA_0 := Lib.hid (BI.mk hla hsa (byte_of hwa))
  have BB_0 := Lib.hid (BI.mk hlb hsb (byte_of hwb))
  have HV1 := Lib.hid hl1
  clear ht hl1 hc1 hx1 hs1 hla hca hxa hsa hwa hlb hcb9 hxb hsb hwb hw
  by_cases hfew : n1 ≤ 100 ∧ m0 ≤ 800 ∧ m9 ≤ 800
  · obtain ⟨h1, h2, h3⟩ := hfew
    have f1 : decide (n1 ≤ 100) = true := decide_eq_true h1
    have f2 : ¬ (800 : Int) < (m0 : Int) := by omega
    have f3 : ¬ (800 : Int) < (m9 : Int) := by omega
    have HN := Lib.hid (And.intro h1 (And.intro h2 h3))
    obtain ⟨cb, hcb⟩ : ∃ cb, cut bud = cb := ⟨_, rfl⟩
    obtain ⟨gm, hgm⟩ : ∃ gm, (JrnP.load za zb).m = gm := ⟨_, rfl⟩
    have m1 : ∀ W, (Builtin.max_ #[3, 3] 3 #[.int .i64 bud, .int .i64 0]).run Tryd.prog W = .ok (.int .i64 (max bud 0)) W := fun W => by
      rw [run_max_int2]; congr 2; split <;> omega
    have m2 : ∀ W, (Builtin.min_ #[3, 3] 3 #[.int .i64 (max bud 0), .int .i64 1048576]).run Tryd.prog W = .ok (.int .i64 cb) W := fun W => by
      rw [run_min_int2, ← hcb]; unfold cut; congr 2; split <;> omega
    generalize max bud 0 = bx at *
    have HCB := Lib.hid hcb
    have HGM := Lib.hid hgm
    clear hcb hgm h1 h2 h3
    go_enter Tryd.func5, Tryd.ntmps5
    go_wp2_with (first
      | (go_at_call 7; (refine (Mnd.awake_any _ TB_0.out).mono ?_; rintro e w1 ⟨rfl, h1⟩; have TB_1 := Lib.hid (TB_0.out.next h1); have BE_1 := Lib.hid (BE_0.out.next h1); have VA_1 := Lib.hid (VA_0.out.next h1); have BA_1 := Lib.hid (BA_0.out.next h1); have BB_1 := Lib.hid (BB_0.out.next h1); clear TB_0 BE_0 VA_0 BA_0 BB_0 h1))
      | (go_at_call 8; (refine (mFew_any a1 n1 cp1 _).mono ?_; rintro e w2 ⟨rfl, h2⟩; have TB_2 := Lib.hid (TB_1.out.next h2); have BE_2 := Lib.hid (BE_1.out.next h2); have VA_2 := Lib.hid (VA_1.out.next h2); have BA_2 := Lib.hid (BA_1.out.next h2); have BB_2 := Lib.hid (BB_1.out.next h2); rw [f1]; clear TB_1 BE_1 VA_1 BA_1 BB_1 h2))
      | (go_at_call 10; (refine (from_at BA_2.out BB_2.out HN.out.2.1 HN.out.2.2 cp0 cp9).mono ?_; rintro e w20 ⟨⟨⟨A20, c20, q20⟩, ⟨A21, c21, q21⟩, ⟨A22, c22, q22⟩, ⟨A23, c23, q23⟩⟩, rfl, hi20, hb20, h20⟩; have TB_3 := Lib.hid (TB_2.out.next h20); have BE_3 := Lib.hid (BE_2.out.next h20); have VA_3 := Lib.hid (VA_2.out.next h20); have BA_3 := Lib.hid (BA_2.out.next h20); have BB_3 := Lib.hid (BB_2.out.next h20); have JI_0 := Lib.hid hi20; have HB20 := Lib.hid (And.intro hb20.1 hb20.2.1); clear hb20 hi20; simp only [Jr.val, Jr.arr, RowV.val]; clear TB_2 BE_2 VA_2 BA_2 BB_2 h20))
      | (go_at_call 9; (refine (again_at za zb ⟨⟨A20, c20, q20⟩, ⟨A21, c21, q21⟩, ⟨A22, c22, q22⟩, ⟨A23, c23, q23⟩⟩ TB_3.out JI_0.out HB20.out (VI.nil _) (by omega) bud HCB.out HGM.out (run_nil _ _) (nl := 0) (ns := 0) rfl rfl).mono ?_; rintro e w21 ⟨A25, c25, A26, c26, rfl, hl20, hn20, h21⟩; have TB_4 := Lib.hid ((TB_3.out.next h21).next (below_box (o := .cells #[.int .i64 cb, .int .i64 gm, .int .i64 0, .slice A25 0 c25] 32))); have BE_4 := Lib.hid ((BE_3.out.next h21).next (below_box (o := .cells #[.int .i64 cb, .int .i64 gm, .int .i64 0, .slice A25 0 c25] 32))); have VA_4 := Lib.hid ((VA_3.out.next h21).next (below_box (o := .cells #[.int .i64 cb, .int .i64 gm, .int .i64 0, .slice A25 0 c25] 32))); have BA_4 := Lib.hid ((BA_3.out.next h21).next (below_box (o := .cells #[.int .i64 cb, .int .i64 gm, .int .i64 0, .slice A25 0 c25] 32))); have BB_4 := Lib.hid ((BB_3.out.next h21).next (below_box (o := .cells #[.int .i64 cb, .int .i64 gm, .int .i64 0, .slice A25 0 c25] 32))); have JI_1 := Lib.hid ((JI_0.out.next h21).next (below_box (o := .cells #[.int .i64 cb, .int .i64 gm, .int .i64 0, .slice A25 0 c25] 32))); have LI_0 := Lib.hid (hl20.next (below_box (o := .cells #[.int .i64 cb, .int .i64 gm, .int .i64 0, .slice A25 0 c25] 32))); have BX_0 := Lib.hid (BxT.new w21 #[.int .i64 cb, .int .i64 gm, .int .i64 0, .slice A25 0 c25] 32); clear hl20 hn20; clear TB_3 BE_3 VA_3 BA_3 BB_3 JI_0 h21; obtain ⟨x20, x21, x22, x23⟩ := BX_0.out.bx.c4))
      | (go_at_call 17; (refine (sum_at LI_0.out (by omega) cb gm 0 (S := 0) (by rfl)).mono ?_; rintro e w22 ⟨rfl, h22⟩; have TB_5 := Lib.hid (TB_4.out.next h22); have BE_5 := Lib.hid (BE_4.out.next h22); have VA_5 := Lib.hid (VA_4.out.next h22); have BA_5 := Lib.hid (BA_4.out.next h22); have BB_5 := Lib.hid (BB_4.out.next h22); have JI_2 := Lib.hid (JI_1.out.next h22); have LI_1 := Lib.hid (LI_0.out.next h22); have BX_1 := Lib.hid (BX_0.out.next h22); clear TB_4 BE_4 VA_4 BA_4 BB_4 JI_1 LI_0 BX_0 h22; obtain ⟨x20, x21, x22, x23⟩ := BX_1.out.bx.c4)))
    clear x20 x21 x22 x23
    have HBX := Lib.hid BX_1.out.bx.lt
    have HT0 := Lib.hid TB_5.out
    have HV0 := Lib.hid VA_5.out
    have HE0 := Lib.hid BE_5.out
    clear LI_1 BX_1 JI_2 BA_5 BB_5
    go_loopw [13, 14] (fun n i wr => ∃ k : Nat, k ≤ n1 ∧ i = .int .i64 k ∧ n = .int .i64 (MndP.ask (l.take k)) ∧ Hid (Below (w22).heap.size w22 wr)) (fun _ i _ => n1 - (intOf i).toNat)
    case atStart => exact ⟨0, Nat.zero_le _, rfl, rfl, Lib.hid (Below.refl _ _)⟩
    case round =>
      obtain ⟨k, hk, rfl, rfl, hbr⟩ := hrel
      by_cases hlt : k < n1
      · have hkl : k < l.length := by rw [HV1.out]; exact hlt
        obtain ⟨bb, o, rfl, hbb, e0, e1⟩ := mv_cells (HV0.out.next hbr.out).see k l[k] (List.getElem?_eq_getElem hkl)
        have HT := Lib.hid (ask_take (List.getElem?_eq_getElem hkl))
        have hnn := (ask_nn (l.take k))
        have hnl : (l.take k).length ≤ 100 := by have := HN.out.1; simp; omega
        generalize l[k] = mv at e0 e1 HT
        obtain ⟨mc, mp⟩ := mv
        simp only at e0 e1 HT
        obtain ⟨q, hq⟩ : ∃ q, min mp 1048576 = q := ⟨_, rfl⟩
        obtain ⟨z, hz⟩ : ∃ z, max q 0 = z := ⟨_, rfl⟩
        have t1 : ∀ W, (Builtin.min_ #[3, 3] 3 #[.int .i64 mp, .int .i64 1048576]).run Tryd.prog W = .ok (.int .i64 q) W := fun W => by
          rw [run_min_int2, ← hq]; congr 2; split <;> omega
        have t2 : ∀ W, (Builtin.max_ #[3, 3] 3 #[.int .i64 q, .int .i64 0]).run Tryd.prog W = .ok (.int .i64 z) W := fun W => by
          rw [run_max_int2, ← hz]; congr 2; split <;> omega
        rw [hq, hz] at HT
        obtain ⟨s, hs⟩ : ∃ s, MndP.ask (l.take k) = s := ⟨_, rfl⟩
        rw [hs] at HT hnn
        rw [hs]
        have hsz : 0 ≤ s ∧ s ≤ 104857600 := by omega
        have hzz : 0 ≤ z ∧ z ≤ 1048576 := by omega
        have e4 : IntKind.i64.wrap (s + z) = MndP.ask (l.take (k + 1)) := by rw [HT.out]; exact IntWalk.i64_in _ (by omega)
        have i1 : (k : Int) < (n1 : Int) := by omega
        have e3 : IntKind.i64.wrap ((k : Int) + 1) = ((k + 1 : Nat) : Int) := by have := HN.out; rw [IntWalk.i64_in _ (by omega)]; rfl
        have HLT := Lib.hid hlt
        clear hq hz hs hsz hzz hnn hnl hkl hlt HT
        go_wp2
        go_roundw
        case rel => exact ⟨k + 1, HLT.out, rfl, rfl, hbr⟩
        case measure => have := HLT.out; simp [intOf]; omega
      · obtain rfl : k = n1 := by omega
        have hT : l.take k = l := List.take_of_length_le (by rw [HV1.out]; exact Nat.le_refl _)
        rw [hT]
        obtain ⟨n, hn⟩ : ∃ n, MndP.ask l = n := ⟨_, rfl⟩
        have hnn := ask_nn l
        rw [HV1.out, hn] at hnn
        rw [hn]
        have TB_0 := Lib.hid (HT0.out.next hbr.out)
        have BE_0 := Lib.hid (HE0.out.next hbr.out)
        have VA_0 := Lib.hid (HV0.out.next hbr.out)
        obtain ⟨c2, hc2⟩ : ∃ c, cut n = c := ⟨_, rfl⟩
        obtain ⟨x, hx⟩ : ∃ x, run [] c2 l = x := ⟨_, rfl⟩
        have HOK := ok_run [] c2 l
        rw [hx] at HOK
        have hfl := HOK.few_l
        obtain ⟨nx, hnx⟩ : ∃ n, x.l.length = n := ⟨_, rfl⟩
        obtain ⟨sx, hsx⟩ : ∃ n, x.s.length = n := ⟨_, rfl⟩
        obtain ⟨S, hS⟩ : ∃ S, sm x.l = S := ⟨_, rfl⟩
        have HC2 := Lib.hid hc2
        have HX := Lib.hid hx
        have HNX := Lib.hid hnx
        have HSX := Lib.hid hsx
        have HSS := Lib.hid hS
        rw [hnx] at hfl
        have HFL := Lib.hid hfl
        by_cases hbig : (1048576 : Int) < n
        · clear hT hn hnn hc2 hx HOK hnx hsx hS hfl hbr HT0 HE0 HV0
          go_wp2_with (first
            | (go_at_call 10; (refine (from_nil _).mono ?_; rintro e w40 ⟨⟨⟨A40, c40, q40⟩, ⟨A41, c41, q41⟩, ⟨A42, c42, q42⟩, ⟨A43, c43, q43⟩⟩, rfl, hi40, hb40, h40⟩; have TB_1 := Lib.hid (TB_0.out.next h40); have BE_1 := Lib.hid (BE_0.out.next h40); have VA_1 := Lib.hid (VA_0.out.next h40); have JI_0 := Lib.hid hi40; have HB40 := Lib.hid (And.intro hb40.1 hb40.2.1); clear hb40 hi40; simp only [Jr.val, Jr.arr, RowV.val]; clear TB_0 BE_0 VA_0 h40))
            | (go_at_call 9; (refine (again_nil ⟨⟨A40, c40, q40⟩, ⟨A41, c41, q41⟩, ⟨A42, c42, q42⟩, ⟨A43, c43, q43⟩⟩ TB_1.out JI_0.out HB40.out VA_1.out (by have := HN.out; omega) n HC2.out HX.out HNX.out HSX.out).mono ?_; rintro e w41 ⟨A45, c45, A46, c46, rfl, hl40, hn40, h41⟩; have TB_2 := Lib.hid ((TB_1.out.next h41).next (below_box (o := .cells #[.int .i64 c2, .int .i64 0, .int .i64 0, .slice A45 nx c45] 32))); have BE_2 := Lib.hid ((BE_1.out.next h41).next (below_box (o := .cells #[.int .i64 c2, .int .i64 0, .int .i64 0, .slice A45 nx c45] 32))); have VA_2 := Lib.hid ((VA_1.out.next h41).next (below_box (o := .cells #[.int .i64 c2, .int .i64 0, .int .i64 0, .slice A45 nx c45] 32))); have JI_1 := Lib.hid ((JI_0.out.next h41).next (below_box (o := .cells #[.int .i64 c2, .int .i64 0, .int .i64 0, .slice A45 nx c45] 32))); have LI_0 := Lib.hid (hl40.next (below_box (o := .cells #[.int .i64 c2, .int .i64 0, .int .i64 0, .slice A45 nx c45] 32))); have BX_0 := Lib.hid (BxT.new w41 #[.int .i64 c2, .int .i64 0, .int .i64 0, .slice A45 nx c45] 32); clear hl40 hn40; clear TB_1 BE_1 VA_1 JI_0 h41; obtain ⟨x40, x41, x42, x43⟩ := BX_0.out.bx.c4)))
          go_ret
          exact ⟨rfl, BE_2.out.bel⟩
        · have hcn : c2 = n := by rw [← hc2]; unfold cut; omega
          have hall := all_of (l := l) (b := c2) (by rw [hcn, hn]; exact Int.le_refl _)
          rw [hx, hn] at hall
          have hs0 : sx = 0 := by rw [← hsx, hall.1]; rfl
          have hsm : S ≤ n := by rw [← hS, HOK.sm]; exact hall.2
          subst hs0
          have g1 : S ≤ n := hsm
          clear hT hn hnn hc2 hx HOK hnx hsx hS hfl hbr HT0 HE0 HV0 hcn hall hsm
          go_wp2_with (first
            | (go_at_call 10; (refine (from_nil _).mono ?_; rintro e w40 ⟨⟨⟨A40, c40, q40⟩, ⟨A41, c41, q41⟩, ⟨A42, c42, q42⟩, ⟨A43, c43, q43⟩⟩, rfl, hi40, hb40, h40⟩; have TB_1 := Lib.hid (TB_0.out.next h40); have BE_1 := Lib.hid (BE_0.out.next h40); have VA_1 := Lib.hid (VA_0.out.next h40); have JI_0 := Lib.hid hi40; have HB40 := Lib.hid (And.intro hb40.1 hb40.2.1); clear hb40 hi40; simp only [Jr.val, Jr.arr, RowV.val]; clear TB_0 BE_0 VA_0 h40))
            | (go_at_call 9; (refine (again_nil ⟨⟨A40, c40, q40⟩, ⟨A41, c41, q41⟩, ⟨A42, c42, q42⟩, ⟨A43, c43, q43⟩⟩ TB_1.out JI_0.out HB40.out VA_1.out (by have := HN.out; omega) n HC2.out HX.out HNX.out HSX.out).mono ?_; rintro e w41 ⟨A45, c45, A46, c46, rfl, hl40, hn40, h41⟩; have TB_2 := Lib.hid ((TB_1.out.next h41).next (below_box (o := .cells #[.int .i64 c2, .int .i64 0, .int .i64 0, .slice A45 nx c45] 32))); have BE_2 := Lib.hid ((BE_1.out.next h41).next (below_box (o := .cells #[.int .i64 c2, .int .i64 0, .int .i64 0, .slice A45 nx c45] 32))); have VA_2 := Lib.hid ((VA_1.out.next h41).next (below_box (o := .cells #[.int .i64 c2, .int .i64 0, .int .i64 0, .slice A45 nx c45] 32))); have JI_1 := Lib.hid ((JI_0.out.next h41).next (below_box (o := .cells #[.int .i64 c2, .int .i64 0, .int .i64 0, .slice A45 nx c45] 32))); have LI_0 := Lib.hid (hl40.next (below_box (o := .cells #[.int .i64 c2, .int .i64 0, .int .i64 0, .slice A45 nx c45] 32))); have BX_0 := Lib.hid (BxT.new w41 #[.int .i64 c2, .int .i64 0, .int .i64 0, .slice A45 nx c45] 32); clear hl40 hn40; clear TB_1 BE_1 VA_1 JI_0 h41; obtain ⟨x40, x41, x42, x43⟩ := BX_0.out.bx.c4))
            | (go_at_call 17; (refine (sum_at LI_0.out (by have := HFL.out; omega) c2 0 0 HSS.out).mono ?_; rintro e w42 ⟨rfl, h42⟩; have TB_3 := Lib.hid (TB_2.out.next h42); have BE_3 := Lib.hid (BE_2.out.next h42); have VA_3 := Lib.hid (VA_2.out.next h42); have JI_2 := Lib.hid (JI_1.out.next h42); have LI_1 := Lib.hid (LI_0.out.next h42); have BX_1 := Lib.hid (BX_0.out.next h42); clear TB_2 BE_2 VA_2 JI_1 LI_0 BX_0 h42; obtain ⟨x40, x41, x42, x43⟩ := BX_1.out.bx.c4)))
          go_ret
          exact ⟨rfl, BE_3.out.bel⟩
  · rcases hc : decide (n1 ≤ 100) with _ | _
    · have f1 := hc
      clear hfew hc
      go_enter Tryd.func5, Tryd.ntmps5
      go_wp2_with (first
            | (go_at_call 7; (refine (Mnd.awake_any _ TB_0.out).mono ?_; rintro e w1 ⟨rfl, h1⟩; have TB_1 := Lib.hid (TB_0.out.next h1); have BE_1 := Lib.hid (BE_0.out.next h1); clear TB_0 BE_0 h1))
            | (go_at_call 8; (refine (mFew_any a1 n1 cp1 _).mono ?_; rintro e w2 ⟨rfl, h2⟩; have TB_2 := Lib.hid (TB_1.out.next h2); have BE_2 := Lib.hid (BE_1.out.next h2); rw [f1]; clear TB_1 BE_1 h2)))
      go_ret
      exact ⟨rfl, BE_2.out.bel⟩
    · have f1 := hc
      by_cases h2 : (800 : Int) < (m0 : Int)
      · clear hfew hc
        go_enter Tryd.func5, Tryd.ntmps5
        go_wp2_with (first
            | (go_at_call 7; (refine (Mnd.awake_any _ TB_0.out).mono ?_; rintro e w1 ⟨rfl, h1⟩; have TB_1 := Lib.hid (TB_0.out.next h1); have BE_1 := Lib.hid (BE_0.out.next h1); clear TB_0 BE_0 h1))
            | (go_at_call 8; (refine (mFew_any a1 n1 cp1 _).mono ?_; rintro e w2 ⟨rfl, h2⟩; have TB_2 := Lib.hid (TB_1.out.next h2); have BE_2 := Lib.hid (BE_1.out.next h2); rw [f1]; clear TB_1 BE_1 h2)))
        go_ret
        exact ⟨rfl, BE_2.out.bel⟩
      · have h3 : (800 : Int) < (m9 : Int) := by
          have := of_decide_eq_true hc
          omega
        clear hfew hc
        go_enter Tryd.func5, Tryd.ntmps5
        go_wp2_with (first
            | (go_at_call 7; (refine (Mnd.awake_any _ TB_0.out).mono ?_; rintro e w1 ⟨rfl, h1⟩; have TB_1 := Lib.hid (TB_0.out.next h1); have BE_1 := Lib.hid (BE_0.out.next h1); clear TB_0 BE_0 h1))
            | (go_at_call 8; (refine (mFew_any a1 n1 cp1 _).mono ?_; rintro e w2 ⟨rfl, h2⟩; have TB_2 := Lib.hid (TB_1.out.next h2); have BE_2 := Lib.hid (BE_1.out.next h2); rw [f1]; clear TB_1 BE_1 h2)))
        go_ret
        exact ⟨rfl, BE_2.out.bel⟩

end Go.Proofs.YtjedkkkhficmoaaDoor.Walk
