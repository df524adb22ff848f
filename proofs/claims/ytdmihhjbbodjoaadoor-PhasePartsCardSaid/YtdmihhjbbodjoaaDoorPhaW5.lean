/- The walk of PhaseParts. -/
import Derived.Test.YtdmihhjbbodjoaaDoorPhaF
import Derived.Test.YtdmihhjbbodjoaaDoorTwoRows
import Derived.OpenShut
import Derived.LoopN
namespace Go.Proofs.YtdmihhjbbodjoaaDoor.Walk
open Go.RowKit Go.ChangeShapes Go.Proofs.YtdmihhjbbodjoaaDoor.Plain Go.Proofs.YtdmihhjbbodjoaaDoor.PhaP Go.Proofs.YtdmihhjbbodjoaaDoor.Pha Go.Proofs.YtdmihhjbbodjoaaDoor.Box Go.Proofs.YtdmihhjbbodjoaaDoor.Held Go.Proofs.YtdmihhjbbodjoaaDoor.Sees Go.Proofs.YtdmihhjbbodjoaaDoor.Open
set_option linter.unusedVariables false

theorem info_int : (Tryd.prog.info? 3).map (fun i => (i.zero, i.size, i.bytes)) = some (some (.int .i64 0), 1, 8) := by kernel_rfl

/-- the calls behind the loop, at a letter -/
structure part_calls (wr : World) (a0 a1 A B : Option Addr) (n c0 c1 k C D : Nat) (f q : Bool) : Prop where
  fits : Calls Tryd.prog 13 #[.slice a0 n c0] wr (On wr (.bool f))
  fits2 : f = true → ∀ W, Hid (Bw wr W) → Calls Tryd.prog 13 #[.slice A k C] W (On wr (.bool true))
  follows : ∀ W, Hid (Bw wr W) → Calls Tryd.prog 15 #[.slice a0 n c0, .slice a1 n c1] W (On wr (.bool q))
  follows2 : q = true → ∀ W, Hid (Bw wr W) → Calls Tryd.prog 15 #[.slice A k C, .slice B k D] W (On wr (.bool true))
theorem part_laid {wr : World} {a0 a1 A B : Option Addr} {n c0 c1 k C D : Nat} {f q : Bool} {l m : List Int} (hL : Lay wr) (hl : l.length = n) (hm : m.length = n) (h60 : n ≤ 60) (hk : 2 * k ≤ n + 1)
    (hs0 : Sees wr wr.heap.size a0 (nums .i64 l)) (hs1 : Sees wr wr.heap.size a1 (nums .i64 m)) (hsA : Sees wr wr.heap.size A (nums .i64 (hf l k))) (hsB : Sees wr wr.heap.size B (nums .i64 (hf m k)))
    (hf_ : ft l = f) (hq : fo l m = q) : part_calls wr a0 a1 A B n c0 c1 k C D f q := by
  have hmx : n ≤ maxLen := by unfold maxLen; omega
  have hkx : k ≤ maxLen := by unfold maxLen; omega
  refine ⟨?_, fun hf1 W hW => ?_, fun W hW => ?_, fun hq1 W hW => ?_⟩
  · exact on_says (Lib.hid (Bw.refl _)) (hf_ ▸ Fits_any l a0 n c0 wr hl hmx hs0)
  · have := Fits_any (hf l k) A k C W (hf_len l k) hkx (sees_bw hsA hW.out)
    rw [ft_half (by omega) (hf_.trans hf1)] at this
    exact on_says hW this
  · exact on_says hW (hq ▸ Follows_any l m a0 a1 n c0 n c1 W (hL.bw hW.out) hl hm hmx hmx (sees_bw hs0 hW.out) (sees_bw hs1 hW.out))
  · have := Follows_any (hf l k) (hf m k) A B k C k D W (hL.bw hW.out) (hf_len l k) (hf_len m k) hkx hkx (sees_bw hsA hW.out) (sees_bw hsB hW.out)
    rw [fo_half (by omega) (hq.trans hq1)] at this
    exact on_says hW this

set_option maxRecDepth 100000 in
set_option maxHeartbeats 6400000 in
theorem phaseParts_walk (w : World) (hL : Lay w) (a0 : Option Addr) (len0 cap0 : Nat) (z0 : List Int) (a1 : Option Addr) (len1 cap1 : Nat) (z1 : List Int)
    (hl0 : z0.length = len0) (hc0 : len0 ≤ cap0) (hx0 : cap0 ≤ maxLen) (hs0 : Sees w w.heap.size a0 (nums .i64 z0)) (hw0 : ∀ n ∈ z0, (Lit.int .i64 n).wf = true)
    (hl1 : z1.length = len1) (hc1 : len1 ≤ cap1) (hx1 : cap1 ≤ maxLen) (hs1 : Sees w w.heap.size a1 (nums .i64 z1)) (hw1 : ∀ n ∈ z1, (Lit.int .i64 n).wf = true) :
    Calls Tryd.prog 7 #[.slice a0 len0 cap0, .slice a1 len1 cap1] w fun e w' => e = .returned (.bool true) ∧ Below w.heap.size w w' := by
  have HA : Hid (∀ W, Hid (Bw w W) → Calls Tryd.prog 8 #[] W (On w (.bool true))) := Lib.hid fun W hW => on_says hW (awake_any W (hL.bw hW.out))
  have K0 : Hid (Bw w w) := Lib.hid (Bw.refl w)
  by_cases hbig : 60 < len0
  · have g1 : (60 : Int) < (len0 : Int) := by omega
    clear hL hl0 hc0 hx0 hs0 hw0 hl1 hc1 hx1 hs1 hw1
    go_enter Tryd.func7, Tryd.ntmps7
    go_wp2_with (go_at_call 8; refine (HA.out _ K0).mono ?_; rintro e w1 ⟨rfl, K1⟩)
    go_ret
    exact ⟨rfl, K1.out⟩
  · have g1 : ¬ (60 : Int) < (len0 : Int) := by omega
    by_cases hz : len1 = len0
    · subst hz
      have h60 : len1 ≤ 60 := by omega
      have HL0 := Lib.hid hl0
      have HL1 := Lib.hid hl1
      have HS0 := Lib.hid hs0
      have HS1 := Lib.hid hs1
      have HLay := Lib.hid hL
      obtain ⟨i0, hi, hq0, hq1, hq2⟩ := info_parts info_int
      clear hL hl0 hc0 hx0 hs0 hw0 hl1 hc1 hx1 hs1 hw1 hbig
      go_enter Tryd.func7, Tryd.ntmps7
      go_wp2_with (go_at_call 8; refine (HA.out _ K0).mono ?_; rintro e w1 ⟨rfl, K1⟩)
      go_loopw [6, 7, 8] (fun a b i wr => ∃ k j : Nat, i = .int .i64 j ∧ Hid (j = 2 * k) ∧ j ≤ len1 + 1 ∧ k ≤ 31 ∧ wr.ownsRow w1.heap.size 3 1 a k (nums .i64 (hf z0 k)) ∧ wr.ownsRow w1.heap.size 3 1 b k (nums .i64 (hf z1 k)) ∧ Apart a b ∧ Below w1.heap.size w1 wr) (fun _ _ i _ => len1 + 2 - (intOf i).toNat)
      case atStart => exact ⟨0, 0, rfl, Lib.hid rfl, by omega, by omega, World.ownsRow_nil _ _ _ _, World.ownsRow_nil _ _ _ _, (fun g hg => by cases hg), Below.refl _ _⟩
      case round =>
        obtain ⟨k, j, rfl, hjk, hj, hk31, hA, hB, hap, hbel⟩ := hrel
        have hsz := hbel.size
        by_cases hlt : j < len1
        · have HJK := hjk.out
          obtain ⟨b, o, rfl, hbB, hc⟩ := HS0.out.at_ (nums_at .i64 z0 (z0.length - 1 - 2 * k) (by rw [HL0.out]; omega))
          obtain ⟨b', o', rfl, hbB', hd⟩ := HS1.out.at_ (nums_at .i64 z1 (z1.length - 1 - 2 * k) (by rw [HL1.out]; omega))
          have KW : Bw w wr := K1.out.next hbel
          have hc' := (KW.cell (p := ⟨b, o + (z0.length - 1 - 2 * k), none⟩) hbB).trans hc
          have HT := Lib.hid (hf_snoc z0 k)
          have HR := Lib.hid (hf_snoc z1 k)
          obtain ⟨t, ht⟩ : ∃ t, len1 - 1 - 2 * k = t := ⟨_, rfl⟩
          rw [HL0.out, ht] at hc hc'
          rw [HL1.out, ht] at hd
          rw [HL0.out, ht] at HT
          rw [HL1.out, ht] at HR
          generalize z0[t]?.getD 0 = x at *
          generalize z1[t]?.getD 0 = y at *
          have HD := Lib.hid hd
          have e1 : IntKind.i64.wrap ((len1 : Int) - 1) = (len1 : Int) - 1 := IntWalk.i64_in _ (by omega)
          have e2 : IntKind.i64.wrap ((len1 : Int) - 1 - (j : Int)) = (t : Int) := by rw [IntWalk.i64_in _ (by omega)]; omega
          have e3 : IntKind.i64.wrap ((j : Int) + 2) = ((j + 2 : Nat) : Int) := by rw [IntWalk.i64_in _ (by omega)]; rfl
          have i1 : (t : Int) < (len1 : Int) := by omega
          have i2 : (j : Int) < (len1 : Int) := by omega
          have hk30 : k ≤ 30 := by omega
          clear ht HJK hc hd KW
          go_wp2_with (first
            | (at_builtin
               refine wpList_append_own_at _ rfl (.tmp 28) (.tmp 37) 22 rfl w1.heap.size 3 i0 (.int .i64 0) 1 8 Tryd.underlying22 hi hq0 hq1 hq2 rfl (by omega) _ k _ rfl (hA.alloc _) ⟨wr.heap.size, 0, none⟩ 1 1 [.int .i64 x] rfl rfl (new_cell _ _ _) (one_cell _ _) (by unfold maxLen; omega) (by omega) (by simp; omega) ?_
               intro v2 w2 hA2 hg2 _ hat2
               have hB2 := own_apart (hB.alloc _) hg2 hap
               have hap2 := Apart.grown (hB.alloc _) hap hat2
               have hbel2 : Below w1.heap.size w1 w2 := (hbel.alloc hsz _).grown hg2 (by simp; omega) (fun g hg => (hA.lt g hg).1)
               have KW2 : Bw w w2 := K1.out.next hbel2
               have hd2 := (KW2.cell (p := ⟨b', o' + t, none⟩) hbB').trans HD.out)
            | (at_builtin
               refine wpList_append_own_at _ rfl (.tmp 39) (.tmp 48) 22 rfl w1.heap.size 3 i0 (.int .i64 0) 1 8 Tryd.underlying22 hi hq0 hq1 hq2 rfl (by omega) _ k _ rfl (hB2.alloc _) ⟨w2.heap.size, 0, none⟩ 1 1 [.int .i64 y] rfl rfl (new_cell _ _ _) (one_cell _ _) (by unfold maxLen; omega) (by omega) (by have := hbel2.size; simp; omega) ?_
               intro v3 w3 hB3 hg3 _ hat3
               have hA3 := own_apart (hA2.alloc _) hg3 hap2.symm
               have hap3 := Apart.grown (hA2.alloc _) hap2.symm hat3
               have hbel3 : Below w1.heap.size w1 w3 := (hbel2.alloc hbel2.size _).grown hg3 (by have := hbel2.size; simp; omega) (fun g hg => (hB2.lt g hg).1)))
          go_roundw
          case rel =>
            refine ⟨k + 1, j + 2, rfl, Lib.hid (by have := hjk.out; omega), by omega, by omega, ?_, ?_, hap3.symm, hbel3⟩
            · rw [HT.out, nums_append]; exact hA3
            · rw [HR.out, nums_append]; exact hB3
          case measure => simp [intOf]; omega
        · have KW : Hid (Bw w wr) := Lib.hid (K1.out.next hbel)
          obtain ⟨A, C, rfl, _, hsA, _⟩ := own_form hA
          obtain ⟨B, D, rfl, _, hsB, _⟩ := own_form hB
          obtain ⟨f, hf_⟩ : ∃ f, ft z0 = f := ⟨_, rfl⟩
          obtain ⟨q, hq⟩ : ∃ q, fo z0 z1 = q := ⟨_, rfl⟩
          have HC : Hid (part_calls wr a0 a1 A B len1 cap0 cap1 k C D f q) := Lib.hid (part_laid (HLay.out.bw KW.out) HL0.out HL1.out h60 (by have := hjk.out; omega) (sees_bw HS0.out KW.out) (sees_bw HS1.out KW.out) hsA hsB hf_ hq)
          clear hA hB hap hbel hsz hsA hsB hf_ hq hjk HS0 HS1 HL0 HL1 K1 K0 HA
          cases f
          all_goals
            cases q
            all_goals
              go_wp2_with (first
                | (go_at_call 13; ((with_reducible refine (HC.out.fits).mono ?_); rintro e w2 ⟨rfl, K2⟩; have K3 := K2))
                | (go_at_call 13; ((with_reducible refine (HC.out.fits2 rfl _ K2).mono ?_); rintro e w3 ⟨rfl, K3⟩))
                | (go_at_call 15; ((with_reducible refine (HC.out.follows _ K3).mono ?_); rintro e w4 ⟨rfl, K4⟩; have K5 := K4))
                | (go_at_call 15; ((with_reducible refine (HC.out.follows2 rfl _ K4).mono ?_); rintro e w5 ⟨rfl, K5⟩)))
              go_ret
              exact ⟨rfl, KW.out.next K5.out⟩
    · have k1 : ((len1 : Int) == (len0 : Int)) = false := by simp; omega
      have k2 : ((len1 : Int) != (len0 : Int)) = true := by simp; omega
      clear hL hl0 hc0 hx0 hs0 hw0 hl1 hc1 hx1 hs1 hw1
      go_enter Tryd.func7, Tryd.ntmps7
      go_wp2_with (go_at_call 8; refine (HA.out _ K0).mono ?_; rintro e w1 ⟨rfl, K1⟩)
      go_ret
      exact ⟨rfl, K1.out⟩
end Go.Proofs.YtdmihhjbbodjoaaDoor.Walk
