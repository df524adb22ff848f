/- The walk of WatchAlong. -/
import Derived.Test.YthgfjikhbgippaaDoorWatJ
import Derived.OpenShut
namespace Go.Proofs.YthgfjikhbgippaaDoor.Walk
open Go.RowKit Go.Proofs.YthgfjikhbgippaaDoor.Plain Go.Proofs.YthgfjikhbgippaaDoor.WatP Go.Proofs.YthgfjikhbgippaaDoor.OrdP Go.Proofs.YthgfjikhbgippaaDoor.PhaP Go.Proofs.YthgfjikhbgippaaDoor.FedP Go.Proofs.YthgfjikhbgippaaDoor.Open Go.Proofs.YthgfjikhbgippaaDoor.Sees Go.Proofs.YthgfjikhbgippaaDoor.Box Go.Proofs.YthgfjikhbgippaaDoor.Held Go.Proofs.YthgfjikhbgippaaDoor.Pha Go.Proofs.YthgfjikhbgippaaDoor.Wat
set_option linter.unusedVariables false
set_option linter.unusedSimpArgs false
set_option maxRecDepth 100000

theorem slice_hi (A : Option Addr) (n cap s : Nat) (h : s ≤ cap) :
    (∀ W, (Instr.sliceAt 22 (.slice A n cap) none (some (.int .i64 (s : Int))) none).run Tryd.prog W = .ok (.slice A s cap) W) ∧
    (∀ W, (Instr.slice 22 (.slice A n cap) none (some (.int .i64 (s : Int))) none).run Tryd.prog W = .ok (.slice A s cap) W) := by
  have hu : Tryd.prog.underlying 22 = some (.slice (Tryd.prog.elem 22)) := by kernel_rfl
  have h2 : ∀ W, (Instr.slice 22 (.slice A n cap) none (some (.int .i64 (s : Int))) none).run Tryd.prog W = .ok (.slice A s cap) W := fun W => by
    have hs : (sizeOf (Tryd.prog.elem 22)).run Tryd.prog W = .ok 5 W := by kernel_rfl
    rw [run_slice_h W 22 A n cap hu .i64 (s : Int) (by omega) (by omega), hs]
    simp only [Result.andThen, sliced]
    congr 2
    · split
      · rfl
      · cases A <;> simp [Addr.add]
  exact ⟨fun W => by rw [run_sliceAt_slice W _ _ _ _ _ hu]; exact h2 W, h2⟩
/-- a call that answers v and leaves the watch as it is -/
def OnA (k : Nat) (l : List Fc) (w0 : World) (X m : Nat) (d : Int) (v : Value) (e : Ending) (w' : World) : Prop := e = .returned v ∧ Hid (WA k l w0 X m d w')
theorem ona {f : FuncId} {args : Array Value} {W w0 : World} {k X m : Nat} {l : List Fc} {d : Int} {v : Value} (h : WA k l w0 X m d W) (hc : Calls Tryd.prog f args W (Says W v)) : Calls Tryd.prog f args W (OnA k l w0 X m d v) :=
  hc.mono fun e w' ⟨h1, h2⟩ => ⟨h1, Lib.hid (h.on h2)⟩
set_option maxHeartbeats 6400000 in
theorem watchAlong_walk (w : World) (hG : Pha.Lay w) (a0 : Int) (a1 : Option Addr) (len1 cap1 : Nat) (z1 : List Fc) (w0 : (Lit.int .i64 a0).wf = true) (hl1 : z1.length = len1) (hc1 : len1 ≤ cap1) (hx1 : cap1 ≤ maxLen) (hs1 : Sees w w.heap.size a1 (z1.map fcc).flatten) (hi1 : ∀ x ∈ z1, x.In w) :
    Calls Tryd.prog 4 #[.int .i64 a0, .slice a1 len1 cap1] w (Says w (.bool true)) := by
  have hsh := sh_of hs1 hi1
  have hm0 : len1 ≤ maxLen := Nat.le_trans hc1 hx1
  have HA := Lib.hid (Wat.awake_any w hG)
  have HS := Lib.hid fun W (hW : Bw w W) => short_any z1 a1 len1 cap1 W hl1 hm0 (hsh.bw hW)
  have HG := Lib.hid hG
  have HSH := Lib.hid hsh
  have HL := Lib.hid hl1
  have HM := Lib.hid hm0
  have HC := Lib.hid hc1
  clear hG hs1 hi1 hsh w0 hl1 hc1 hx1 hm0
  go_enter Tryd.func4, Tryd.ntmps4
  go_wp2_with (first
    | (go_at_call 6; ((with_reducible refine HA.out.mono ?_); clear HA; rintro e w1 ⟨rfl, k1⟩; have K1 : Hid (Bw w w1) := Lib.hid k1)))
  refine (HS.out _ K1.out).mono ?_
  rintro e w2 ⟨g, rfl, rfl, hf⟩
  have HFew := Lib.hid hf
  clear HS hf k1
  cases g
  · go_wp2
    go_ret
    exact ⟨rfl, K1.out⟩
  · have hfew := HFew.out rfl
    have h60 : len1 ≤ 60 := by have := hfew.len; have := HL.out; omega
    have HROW := Lib.hid hfew.row
    have HALL := Lib.hid (all_any z1 a1 len1 cap1 w1 HL.out (by omega) (HSH.out.bw K1.out))
    clear hfew HFew
    go_wp2_with fail
    refine HALL.out.mono ?_
    rintro e w3 ⟨B, kk, rfl, hb3, hse3⟩
    have K3 : Hid (Bw w w3) := Lib.hid (K1.out.next hb3.out)
    have hsA : Sh w3 a1 z1 := HSH.out.bw K3.out
    have hsB : Sh w3 B z1 := ⟨hse3.out, hsA.rows, hsA.bits⟩
    have hL3 : Pha.Lay w3 := HG.out.bw K3.out
    obtain ⟨k, hk⟩ := bo_nat a0
    have hk8 : k ≤ 8 := by unfold FedP.bo at hk; omega
    have HN := Lib.hid (wa_new hk8 hk z1 w3)
    have HO : Hid (∀ (X m : Nat) (d : Int) W, m < len1 → Hid (WA k z1 w3 X m d W) → Calls Tryd.prog 9 #[.int .i64 a0, .slice B len1 kk, .int .i64 m] W (OnA k z1 w3 X m d (.bool (ov k z1 m)))) := Lib.hid fun X m d W hm hW =>
      ona hW.out (rOver_any a0 k hk z1 B len1 kk m W HL.out h60 hm (hsB.bw hW.out.bw))
    have HB : Hid (∀ (X m : Nat) (d : Int) W, m < len1 → Hid (WA k z1 w3 X m d W) → Calls Tryd.prog 10 #[.slice B len1 kk, .int .i64 m] W (OnA k z1 w3 X m d (.bool (br z1 m)))) := Lib.hid fun X m d W hm hW =>
      ona hW.out (rBreaks_any z1 B len1 kk m W HL.out h60 HROW.out hm (hsB.bw hW.out.bw))
    have HP : Hid (∀ (X m : Nat) (d o : Int) W, m < len1 → Fi (ov k z1) 0 (m + 1) o → Hid (WA k z1 w3 X m d W) → Calls Tryd.prog 11 #[.int .i64 a0, .slice a1 (m + 1) cap1] W (OnA k z1 w3 X m d (.int .i64 o))) := Lib.hid fun X m d o W hm ho hW =>
      ona hW.out (Over_any a0 k hk (z1.take (m + 1)) a1 (m + 1) cap1 W (by rw [List.length_take, HL.out]; omega) (by have := HM.out; omega) ((hsA.bw hW.out.bw).take _) o (Fi.same ho fun t ht => (ov_take ht).symm))
    have HQ : Hid (∀ (X m : Nat) (d o : Int) W, m < len1 → Fi (br z1) 0 (m + 1) o → Hid (WA k z1 w3 X m d W) → Calls Tryd.prog 12 #[.slice a1 (m + 1) cap1] W (OnA k z1 w3 X m d (.int .i64 o))) := Lib.hid fun X m d o W hm ho hW =>
      ona hW.out (Breaks_any (z1.take (m + 1)) a1 (m + 1) cap1 W (hL3.bw hW.out.bw) (by rw [List.length_take, HL.out]; omega) (by omega) ((hsA.bw hW.out.bw).take _) o (Fi.same ho fun t ht => (br_take ht).symm))
    have HT : Hid (∀ (X m : Nat) (d D : Int) (x : Fc) W, (0 ≤ d ∧ d < 1000) → z1[m]? = some x → D = (if bad1 k z1 m then d + 1 else d) → Hid (WA k z1 w3 X m d W) → Calls Tryd.prog 16 #[.pointer (some ⟨X, 0, none⟩), fcv x] W (OnA k z1 w3 X (m + 1) D (.bool (D == 0)))) := Lib.hid fun X m d D x W hd hx hD hW =>
      wa_tell hk8 hW.out hL3 hd hx (hsA.rows x (List.mem_of_getElem? hx)) (by have := HROW.out x (List.mem_of_getElem? hx); omega) hD
    have HBD : Hid (∀ (X m : Nat) (d : Int) W, Hid (WA k z1 w3 X m d W) → Calls Tryd.prog 17 #[.pointer (some ⟨X, 0, none⟩)] W fun e w' => e = .returned (.int .i64 d) ∧ W = w') := Lib.hid fun X m d W hW => bad_any X d W (hW.out.bad hk8)
    have HTN : Hid (∀ W, Calls Tryd.prog 16 #[.pointer none, .agg #[.int .i64 0, .int .i64 0, .int .i64 0, .slice none 0 0, .int .u64 0]] W (Says W (.bool false))) := Lib.hid fun W => tell_nil ⟨0, 0, 0, ⟨none, 0, []⟩, 0⟩ W
    have HBN : Hid (∀ W, Calls Tryd.prog 17 #[.pointer none] W fun e w' => e = .returned (.int .i64 0) ∧ W = w') := Lib.hid fun W => bad_nil W
    have HSA := Lib.hid hsA
    clear hsB hsA hk hb3 hse3 HALL HSH HM HROW HG hL3 hk8
    go_wp2_with fail
    refine HN.out.mono ?_
    rintro e w4 ⟨X, rfl, hA0⟩
    clear HN
    go_wp2
    go_loopw [9, 10, 11] (fun p i _ wr => ∃ (m : Nat) (d : Int), i = .int .i64 m ∧ m ≤ len1 ∧ p = .int .i64 d ∧ Hid (d = (bads k z1 m : Nat)) ∧ Hid (WA k z1 w3 X m d wr)) (fun _ i _ _ => len1 - (intOf i).toNat)
    case atStart => exact ⟨0, 0, rfl, Nat.zero_le _, rfl, Lib.hid rfl, hA0⟩
    case round =>
      clear hA0
      obtain ⟨m, d, rfl, hm, rfl, hd, A⟩ := hrel
      by_cases hlt : m < len1
      · obtain ⟨x, hx⟩ : ∃ x, z1[m]? = some x := ⟨_, List.getElem?_eq_getElem (by rw [HL.out]; omega)⟩
        obtain ⟨bb, of, rfl, hbb, c0, c1, c2, c3, c4⟩ := facts_at HSA.out.see m hx
        have HCC : Hid (∀ W, Bw w3 W → _) := Lib.hid fun W (hW : Bw w3 W) => And.intro ((hW.cell (p := ⟨bb, of + m * 5, none⟩) hbb).trans c0) (And.intro ((hW.cell (p := ⟨bb, of + m * 5 + 1, none⟩) hbb).trans c1) (And.intro ((hW.cell (p := ⟨bb, of + m * 5 + 2, none⟩) hbb).trans c2) (And.intro ((hW.cell (p := ⟨bb, of + m * 5 + 3, none⟩) hbb).trans c3) ((hW.cell (p := ⟨bb, of + m * 5 + 4, none⟩) hbb).trans c4))))
        obtain ⟨o, ho⟩ := Fi.ex (ov k z1) 0 (m + 1)
        obtain ⟨b, hb⟩ := Fi.ex (br z1) 0 (m + 1)
        have hnb := none_bad (m + 1) ho hb
        have hble := bads_le k z1 m
        have hd0 := hd.out
        obtain ⟨D, hD⟩ : ∃ D : Int, (bads k z1 (m + 1) : Int) = D := ⟨_, rfl⟩
        have hDd : D = if bad1 k z1 m then d + 1 else d := by
          rw [← hD, hd0, show bads k z1 (m + 1) = bads k z1 m + (if bad1 k z1 m then 1 else 0) from rfl]; split <;> simp
        rw [hD] at hnb
        have HO1 := Lib.hid fun W hW => HO.out X m d W hlt hW
        have HB1 := Lib.hid fun W hW => HB.out X m d W hlt hW
        obtain ⟨m1, hm1⟩ : ∃ m1, m + 1 = m1 := ⟨_, rfl⟩
        have HP1 := Lib.hid fun W hW => HP.out X m d o W hlt ho hW
        have HQ1 := Lib.hid fun W hW => HQ.out X m d b W hlt hb hW
        have HT1 := Lib.hid fun W hW => HT.out X m d D x W (by omega) hx hDd hW
        have HBD1 := Lib.hid fun W hW => HBD.out X m1 D W hW
        obtain ⟨s1, s2⟩ := slice_hi (some ⟨bb, of, none⟩) len1 cap1 m1 (by have := HC.out; omega)
        obtain ⟨pw, dr, cp, ⟨Ar, cr, zs⟩, rs⟩ := x
        unfold fcv RowN.val at HT1
        unfold RowN.val at HCC
        simp only at HT1 HCC
        generalize zs.length = qr at *
        rw [hm1] at HP1 HQ1 HT1
        have i1 : (m : Int) < (len1 : Int) := by omega
        have e3 : IntKind.i64.wrap ((m : Int) + 1) = (m1 : Int) := by rw [IntWalk.i64_in _ (by omega)]; omega
        have ewd : IntKind.i64.wrap (d + 1) = d + 1 := IntWalk.i64_in _ (by omega)
        have HD' : Hid (D = (bads k z1 m1 : Nat)) := Lib.hid (by rw [← hm1]; exact hD.symm)
        have HM1 := Lib.hid hm1
        have HLT := Lib.hid hlt
        unfold bad1 at hDd
        obtain ⟨F, hF⟩ : ∃ F, (D == 0) = F := ⟨_, rfl⟩
        rw [hF] at hnb HT1
        clear hx c0 c1 c2 c3 c4 HO HB HP HQ HT HBD HTN HBN HSA hble hd0 hD ho hb hlt hd hm hm1 HL
        have ways : (ov k z1 m = true ∧ d + 1 = D) ∨ (ov k z1 m = false ∧ br z1 m = true ∧ d + 1 = D) ∨ (ov k z1 m = false ∧ br z1 m = false ∧ d = D) := by
          cases h1 : ov k z1 m <;> cases h2 : br z1 m <;> rw [h1, h2] at hDd <;> simp at hDd <;> simp [hDd]
        have fways : ((o == -1) = true ∧ (b == -1) = F) ∨ ((o == -1) = false ∧ F = false) := by
          cases h1 : (o == -1) <;> rw [h1] at hnb <;> simp at hnb <;> simp [hnb]
        clear hnb hDd
        rcases ways with ⟨u1, u2⟩ | ⟨u1, u3, u2⟩ | ⟨u1, u3, u2⟩
        all_goals
          rw [u1] at HO1
          try rw [u3] at HB1
          try rw [u2] at ewd
          try clear u3
          clear u1
        all_goals
          rcases fways with ⟨v1, v2⟩ | ⟨v1, v2⟩
          all_goals
            subst v2
            try subst u2
            try cases hbb2 : (b == -1)
            all_goals
              try rw [hbb2] at HT1 hF
              go_wp2_with (first
                | (go_at_call 9; ((with_reducible refine (HO1.out _ A).mono ?_); clear HO1; rintro e w5 ⟨rfl, A5⟩))
                | (go_at_call 10; ((with_reducible refine (HB1.out _ A5).mono ?_); clear HB1 A5; rintro e w6 ⟨rfl, A5⟩))
                | (go_at_call 11; ((with_reducible refine (HP1.out _ A5).mono ?_); clear HP1 A5; rintro e w7 ⟨rfl, A5⟩; (try obtain ⟨d0, d1, d2, d3, d4⟩ := HCC.out _ A5.out.bw)))
                | (go_at_call 12; ((with_reducible refine (HQ1.out _ A5).mono ?_); clear HQ1 A5 d0 d1 d2 d3 d4; rintro e w8 ⟨rfl, A5⟩; obtain ⟨d0, d1, d2, d3, d4⟩ := HCC.out _ A5.out.bw))
                | (go_at_call 16; ((with_reducible refine (HT1.out _ A5).mono ?_); clear HT1; rintro e w9 ⟨rfl, A9⟩))
                | (go_at_call 17; ((with_reducible refine (HBD1.out _ A9).mono ?_); rintro e w10 ⟨rfl, rfl⟩)))
              go_roundw
              case rel => exact ⟨m1, _, rfl, by have := HM1.out; have := HLT.out; omega, rfl, HD', A9⟩
              case measure => have := HM1.out; have := HLT.out; simp [intOf]; omega
      · obtain rfl : m = len1 := by omega
        have A1 : Hid (Bw w3 wr) := Lib.hid A.out.bw
        clear HO HB HP HQ HT HBD A
        go_wp2_with (first
          | (go_at_call 16; ((with_reducible refine (HTN.out _).mono ?_); clear HTN; rintro e w5 ⟨rfl, k5⟩))
          | (go_at_call 17; ((with_reducible refine (HBN.out _).mono ?_); rintro e w6 ⟨rfl, rfl⟩)))
        go_ret
        exact ⟨rfl, K3.out.next (A1.out.next k5)⟩
end Go.Proofs.YthgfjikhbgippaaDoor.Walk
