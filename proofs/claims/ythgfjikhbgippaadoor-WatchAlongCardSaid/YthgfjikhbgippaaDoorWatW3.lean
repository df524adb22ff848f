/- The walk of WatchLater. -/
import Derived.Test.YthgfjikhbgippaaDoorWatI
namespace Go.Proofs.YthgfjikhbgippaaDoor.Walk
open Go.RowKit Go.Proofs.YthgfjikhbgippaaDoor.Plain Go.Proofs.YthgfjikhbgippaaDoor.WatP Go.Proofs.YthgfjikhbgippaaDoor.OrdP Go.Proofs.YthgfjikhbgippaaDoor.PhaP Go.Proofs.YthgfjikhbgippaaDoor.FedP Go.Proofs.YthgfjikhbgippaaDoor.Open Go.Proofs.YthgfjikhbgippaaDoor.Sees Go.Proofs.YthgfjikhbgippaaDoor.Box Go.Proofs.YthgfjikhbgippaaDoor.Held Go.Proofs.YthgfjikhbgippaaDoor.Pha Go.Proofs.YthgfjikhbgippaaDoor.Wat
set_option linter.unusedVariables false
set_option linter.unusedSimpArgs false
set_option maxRecDepth 100000

theorem sh_of {w : World} {A : Option Addr} {l : List Fc} (hs : Sees w w.heap.size A (l.map fcc).flatten) (hi : ∀ x ∈ l, x.In w) : Sh w A l :=
  ⟨hs, fun x hx => ⟨(hi x hx).row.see, (hi x hx).len⟩, fun x hx => (hi x hx).bits⟩
theorem later {l : List Fc} {car : Int} {k n : Nat} {v u : Int} (hk : k ≤ n) (h : Fi (rst l car) k n v) (h' : Fi (rst l car) (k + 1) n u) :
    (0 < fz v k ∧ fz u (k + 1) = fz v k - 1) ∨ (fz v k = -1 ∧ fz u (k + 1) = -1) ∨ (fz v k = 0 ∧ k < n ∧ rst l car k = true) := by
  by_cases hkn : k < n
  · cases hr : rst l car k
    · have e := h.one (h'.on hr)
      subst e
      rcases h'.lt with rfl | ⟨h1, h2⟩
      · exact .inr (.inl ⟨rfl, rfl⟩)
      · refine .inl ?_
        have : ¬ v = -1 := by omega
        unfold fz
        rw [if_neg this, if_neg this]
        omega
    · have e := h.one (Fi.here hkn hr)
      subst e
      refine .inr (.inr ⟨?_, hkn, rfl⟩)
      unfold fz
      rw [if_neg (by omega)]; omega
  · have e := h.one (Fi.none _ (by omega))
    have e' := h'.one (Fi.none _ (by omega))
    subst e e'
    exact .inr (.inl ⟨rfl, rfl⟩)
theorem sh_x (W : World) (x : Fc) (hx : Rok W x.r) (hb : x.rs < 18446744073709551616) (cs : Array Value) (hcs : cs = (fcc x).toArray) : Sh (W.alloc (.cells cs 40)) (some ⟨W.heap.size, 0, none⟩) [x] := by
  subst hcs
  exact ⟨Wat.sees_bx (by simpa using Bx.new W (fcc x).toArray 40) (by simp), fun y hy => by rw [List.mem_singleton.1 hy]; exact hx.bw below_box, fun y hy => by rw [List.mem_singleton.1 hy]; exact hb⟩

set_option maxHeartbeats 3200000 in
theorem watchLater_walk (w : World) (hG : Lay w) (a0 : Option Addr) (len0 cap0 : Nat) (z0 : List Fc) (a1 a2 : Int) (hl0 : z0.length = len0) (hc0 : len0 ≤ cap0) (hx0 : cap0 ≤ maxLen) (hs0 : Sees w w.heap.size a0 (z0.map fcc).flatten) (hi0 : ∀ x ∈ z0, x.In w)
    (w1 : (Lit.int .i64 a1).wf = true) (w2 : (Lit.int .u8 a2).wf = true) : Calls Tryd.prog 5 #[.slice a0 len0 cap0, .int .i64 a1, .int .u8 a2] w (Says w (.bool true)) := by
  have hsh := sh_of hs0 hi0
  have e1 : IntKind.u8.min = 0 := rfl
  have e2 : IntKind.u8.max = 255 := rfl
  simp only [Lit.wf, Bool.and_eq_true, decide_eq_true_eq] at w2
  rw [e1, e2] at w2
  obtain ⟨q, rfl⟩ : ∃ q : Nat, a2 = q := ⟨a2.toNat, by omega⟩
  have hm0 : len0 ≤ maxLen := Nat.le_trans hc0 hx0
  have HA := Lib.hid (Wat.awake_any w hG)
  have HS := Lib.hid fun W (hW : Bw w W) => short_any z0 a0 len0 cap0 W hl0 hm0 (hsh.bw hW)
  have HSH := Lib.hid hsh
  have HL := Lib.hid hl0
  have HM := Lib.hid hm0
  have HQ := Lib.hid w2
  clear hG hs0 hi0 hsh w1 e1 e2 hl0 hc0 hx0 hm0 w2
  go_enter Tryd.func5, Tryd.ntmps5
  go_wp2_with (first
    | (go_at_call 6; ((with_reducible refine HA.out.mono ?_); clear HA; rintro e w1 ⟨rfl, k1⟩; have K1 : Hid (Bw w w1) := Lib.hid k1)))
  refine (HS.out _ K1.out).mono ?_
  rintro e w2 ⟨g, rfl, rfl, hf⟩
  have HFew := Lib.hid hf
  clear HS hf k1
  cases g
  · go_wp2
    go_ret
    exact ⟨rfl, K1.out⟩
  · have hl0 := HL.out
    have hm0 := HM.out
    have hsh := HSH.out
    have hfew := HFew.out rfl
    have h60 : len0 ≤ 60 := by have := hfew.len; omega
    have hq := HQ.out
    obtain ⟨k, hk⟩ : ∃ k, q % (len0 + 1) = k := ⟨_, rfl⟩
    have hkl : k ≤ len0 := by
      have := Nat.mod_lt q (show 0 < len0 + 1 by omega)
      rw [hk] at this; omega
    have eqw : wrap64 (q : Int) = q := by unfold wrap64; omega
    have elw : wrap64 ((len0 : Int) + 1) = (len0 : Int) + 1 := by unfold wrap64; omega
    have emt : (q : Int).tmod ((len0 : Int) + 1) = (k : Int) := by
      rw [Int.tmod_eq_emod_of_nonneg (by omega), ← hk]; simp
    obtain ⟨v, hv⟩ := Fi.ex (rst z0 a1) k len0
    obtain ⟨u, hu⟩ := Fi.ex (rst z0 a1) (k + 1) len0
    have HLT := Lib.hid (later hkl hv hu)
    have HF1 : Hid (∀ W, Hid (Bw w W) → Calls Tryd.prog 13 #[.int .i64 a1, .int .i64 k, .slice a0 len0 cap0] W (On w (.int .i64 (fz v k)))) := Lib.hid fun W hW => on_says hW (Frees_any z0 a0 len0 cap0 a1 k (by omega) k (by omega) W hl0 hm0 (hsh.bw hW.out) v hv)
    obtain ⟨kk, hkk⟩ : ∃ kk, k + 1 = kk := ⟨_, rfl⟩
    rw [hkk] at hu
    have HF2 : Hid (∀ W, Hid (Bw w W) → Calls Tryd.prog 13 #[.int .i64 a1, .int .i64 (kk : Int), .slice a0 len0 cap0] W (On w (.int .i64 (fz u kk)))) := Lib.hid fun W hW => on_says hW (Frees_any z0 a0 len0 cap0 a1 (kk : Int) (by omega) kk (by omega) W hl0 hm0 (hsh.bw hW.out) u hu)
    have ek : IntKind.i64.wrap ((k : Int) + 1) = (kk : Int) := by rw [IntWalk.i64_in _ (by omega)]; omega
    have el : IntKind.i64.wrap ((len0 : Int) + 1) = (len0 : Int) + 1 := IntWalk.i64_in _ (by omega)
    have eq1 : IntKind.i64.wrap (q : Int) = (q : Int) := IntWalk.i64_in _ (by omega)
    have en : ((len0 : Int) + 1 == 0) = false := by simp; omega
    have hlt1 := hv.lt
    have hlt2 := hu.lt
    obtain ⟨a, ha⟩ : ∃ a, fz v k = a := ⟨_, rfl⟩
    obtain ⟨b, hb⟩ : ∃ b, fz u kk = b := ⟨_, rfl⟩
    have hab : -1 ≤ a ∧ a ≤ 60 := by
      rw [← ha]; unfold fz; split <;> omega
    have es : IntKind.i64.wrap (a - 1) = a - 1 := IntWalk.i64_in _ (by omega)
    rw [hkk, ha, hb] at HLT
    rw [ha] at HF1
    rw [hb] at HF2
    clear hl0 hm0 hsh hfew hq hkk hv hu hlt1 hlt2 ha hb hk HQ HM HFew
    rcases HLT.out with ⟨g1, g2⟩ | ⟨g1, g2⟩ | ⟨g1, g2, g3⟩
    · subst g2
      have i1 : (0 : Int) < a := g1
      clear HLT
      go_wp2_with (first
        | (go_at_call 13; ((with_reducible refine (HF1.out _ K1).mono ?_); clear HF1; rintro e w2 ⟨rfl, K2⟩))
        | (go_at_call 13; ((with_reducible refine (HF2.out _ K2).mono ?_); clear HF2; rintro e w3 ⟨rfl, K3⟩)))
      go_ret
      exact ⟨rfl, K3.out⟩
    · subst g1 g2
      clear HLT hab es
      go_wp2_with (first
        | (go_at_call 13; ((with_reducible refine (HF1.out _ K1).mono ?_); clear HF1; rintro e w2 ⟨rfl, K2⟩))
        | (go_at_call 13; ((with_reducible refine (HF2.out _ K2).mono ?_); clear HF2; rintro e w3 ⟨rfl, K3⟩)))
      go_ret
      exact ⟨rfl, K3.out⟩
    · subst g1
      obtain ⟨x, hx⟩ : ∃ x, z0[k]? = some x := ⟨_, List.getElem?_eq_getElem (by rw [HL.out]; omega)⟩
      have hrx := (HSH.out.rows x (List.mem_of_getElem? hx))
      have hbx := (HSH.out.bits x (List.mem_of_getElem? hx))
      have hone : Fi (rst [x] a1) 0 1 0 := Fi.here (by decide) (by rw [rst_at hx] at g3; exact g3)
      have HF3 : Hid (∀ W, Hid (Bw w W) → Calls Tryd.prog 13 #[.int .i64 a1, .int .i64 0, .slice (some ⟨W.heap.size, 0, none⟩) 1 1] (W.alloc (.cells (fcc x).toArray 40)) (On w (.int .i64 0))) := Lib.hid fun W hW =>
        on_says (Lib.hid (hW.out.next below_box)) (Frees_any [x] _ 1 1 a1 0 (by decide) 0 rfl _ rfl (by decide) (sh_x W x (hrx.bw hW.out) hbx _ rfl) 0 hone)
      obtain ⟨bb, o, rfl, hbb, c0, c1, c2, c3, c4⟩ := facts_at HSH.out.see k hx
      have HC : Hid (∀ W, Bw w W → _) := Lib.hid fun W (hW : Bw w W) => And.intro ((hW.cell (p := ⟨bb, o + k * 5, none⟩) hbb).trans c0) (And.intro ((hW.cell (p := ⟨bb, o + k * 5 + 1, none⟩) hbb).trans c1) (And.intro ((hW.cell (p := ⟨bb, o + k * 5 + 2, none⟩) hbb).trans c2) (And.intro ((hW.cell (p := ⟨bb, o + k * 5 + 3, none⟩) hbb).trans c3) ((hW.cell (p := ⟨bb, o + k * 5 + 4, none⟩) hbb).trans c4))))
      obtain ⟨pw, dr, cp, ⟨Ar, cr, zs⟩, rs⟩ := x
      unfold fcc RowN.val at HF3
      unfold RowN.val at HC
      simp only at HF3 HC
      generalize zs.length = qr at *
      have i1 : (k : Int) < (len0 : Int) := by omega
      clear HLT hab es hrx hbx hone c0 c1 c2 c3 c4 hx g3
      go_wp2_with (first
        | (go_at_call 13; ((with_reducible refine (HF1.out _ K1).mono ?_); clear HF1; rintro e w2 ⟨rfl, K2⟩))
        | (go_at_call 13; ((with_reducible refine (HF2.out _ K2).mono ?_); clear HF2; rintro e w3 ⟨rfl, K3⟩; obtain ⟨d0, d1, d2, d3, d4⟩ := HC.out _ K3.out))
        | (go_at_call 13; ((with_reducible refine (HF3.out _ K3).mono ?_); clear HF3; rintro e w4 ⟨rfl, K4⟩)))
      go_ret
      exact ⟨rfl, K4.out⟩
end Go.Proofs.YthgfjikhbgippaaDoor.Walk
