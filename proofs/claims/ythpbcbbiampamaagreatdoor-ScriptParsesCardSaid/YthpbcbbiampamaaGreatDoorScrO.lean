/- The law's own: of. -/
import Derived.Test.YthpbcbbiampamaaGreatDoorScrN
namespace Go.Proofs.YthpbcbbiampamaaGreatDoor.Scr
open Go.RowKit Go.Maps Go.Proofs.YthpbcbbiampamaaGreatDoor.ScrP Go.Proofs.YthpbcbbiampamaaGreatDoor.Box Go.Proofs.YthpbcbbiampamaaGreatDoor.Held Go.Proofs.YthpbcbbiampamaaGreatDoor.Sees Go.Proofs.YthpbcbbiampamaaGreatDoor.Jrn
set_option linter.unusedVariables false
set_option linter.unusedSimpArgs false
set_option maxRecDepth 100000

theorem info_rE : (Tryz.prog.info? 45).map (fun i => (i.zero, i.size, i.bytes)) = some (some (.agg #[.int .i64 0, .int .i64 0, .int .i64 0]), 3, 24) := by kernel_rfl
theorem j_grow {w W W' : World} {bs : List (Nat × Array Value)} {base : Nat} {o : Option Nat} (h : J w W bs) (hg : W.grownBy W' o) (ho : ∀ g, o = some g → base ≤ g) (hw : w.heap.size ≤ base) (hb : ∀ x ∈ bs, x.1 < base) : J w W' bs :=
  ⟨h.below.grown hg h.below.size (fun g e => Nat.le_trans hw (ho g e)), fun x hx => (h.at_ x hx).kept (hg.block x.1 (h.at_ x hx).lt (fun e => by have := ho _ e.symm; have := hb x hx; omega))⟩
/-- a tick's value is answered, in whatever memory, and memory made alone -/
def OfP (w : World) (t : T) (e : Ending) (w' : World) : Prop := ∃ A c, e = .returned (tv t A t.es.length c) ∧ Hid (Below w.heap.size w w' ∧ Sees w' w'.heap.size A (evc t.es) ∧ t.es.length ≤ c)
theorem bx3 {W : World} {B : Nat} {a b c : Value} (h : Bx W B #[a, b, c]) : ∀ j u, [a, b, c][j]? = some u → W.cell? ((⟨B, 0, none⟩ : Addr).add j) = some u := by
  intro j u hj
  rw [Addr.add_lit, Nat.zero_add]
  exact h.cell (by simpa using hj)
theorem evc_one' (e : E) : evc [e] = [.int .i64 e.k, .int .i64 e.c, .int .i64 e.n] := by simp [evc]

set_option maxHeartbeats 6400000 in
theorem of_any (t : T) (A : Option Addr) (n cap : Nat) (w : World) (hn : t.es.length = n) (hN : n ≤ 1000) (hs : Sees w w.heap.size A (evc t.es)) : Calls Tryz.prog 10 #[tv t A n cap] w (OfP w t) := by
  obtain ⟨i0, hi, hz0, hz1, hz2⟩ := info_parts info_rE
  obtain ⟨m, g, cp, bl, l⟩ := t
  simp only at hn hs
  unfold OfP tv tvc
  simp only
  rw [hn]
  have HN := Lib.hid hn
  have HS := Lib.hid hs
  have hj0 := ((J.one w #[.bool m, .bool g, .int .i64 cp, .int .u64 bl, .slice A n cap] 25).push #[.bool false, .bool false, .int .i64 0, .int .u64 0, .slice none 0 0] 31).push #[.bool false, .bool false, .int .i64 0, .int .u64 0, .slice none 0 0] 31
  have hj := Lib.hid (((J.one w #[.bool m, .bool g, .int .i64 cp, .int .u64 bl, .slice A n cap] 25).push #[.bool false, .bool false, .int .i64 0, .int .u64 0, .slice none 0 0] 31).push #[.bool m, .bool g, .int .i64 cp, .int .u64 bl, .slice none 0 0] 31)
  simp only [World.size_alloc] at hj hj0
  obtain ⟨z0, z1, z2, z3, z4⟩ := (hj0.bx 0 rfl).c5
  obtain ⟨f0, f1, f2, f3, f4⟩ := (hj0.bx 0 rfl).f5
  obtain ⟨a0, a1, a2, a3, a4⟩ := (hj0.bx 2 rfl).c5
  have hb1 := (J.one w #[.bool m, .bool g, .int .i64 cp, .int .u64 bl, .slice A n cap] 25).push #[.bool false, .bool false, .int .i64 0, .int .u64 0, .slice none 0 0] 31
  obtain ⟨b0, b1, b2, b3, b4⟩ := (hb1.bx 1 rfl).c5
  clear hn hs hj0 hb1
  go_enter Tryz.func10, Tryz.ntmps10
  go_wp2
  clear z0 z1 z2 z3 z4 f0 f1 f2 f3 f4 a0 a1 a2 a3 a4 b0 b1 b2 b3 b4
  obtain ⟨T, hT⟩ : ∃ T, w.heap.size + 1 + 1 = T := ⟨_, rfl⟩
  rw [hT] at hj ⊢
  have hTs := (hj.out.bx 0 rfl).lt
  go_loopw [4] (fun i wr => ∃ (q : Nat) (v : Value), q ≤ n ∧ i = .int .i64 q ∧ Hid (J w wr [(T, #[.bool m, .bool g, .int .i64 cp, .int .u64 bl, v]), (w.heap.size + 1, #[.bool false, .bool false, .int .i64 0, .int .u64 0, .slice none 0 0]), (w.heap.size, #[.bool m, .bool g, .int .i64 cp, .int .u64 bl, .slice A n cap])]) ∧ wr.ownsRow (T + 1) 45 3 v q (evc (l.take q))) (fun i _ => n - (intOf i).toNat)
  case atStart => exact ⟨0, _, Nat.zero_le _, rfl, hj, by simpa [evc] using World.ownsRow_nil _ _ _ _⟩
  case round =>
    obtain ⟨q, v, hq, rfl, hjr, hown⟩ := hrel
    clear hj hTs
    have hwr : T + 1 ≤ wr.heap.size := (hjr.out.bx 0 rfl).lt
    obtain ⟨a0, a1, a2, a3, a4⟩ := (hjr.out.bx 2 rfl).c5
    obtain ⟨b0, b1, b2, b3, b4⟩ := (hjr.out.bx 0 rfl).c5
    by_cases hlt : q < n
    · obtain ⟨e, he⟩ : ∃ e, l[q]? = some e := ⟨l[q]'(by rw [HN.out]; exact hlt), List.getElem?_eq_getElem _⟩
      obtain ⟨bb, o, rfl, hbb, c0, c1, c2⟩ := sees_ev HS.out hjr.out.below he
      have HT : Hid (evc (l.take (q + 1)) = evc (l.take q) ++ evc [e]) := Lib.hid (by rw [List.take_add_one, he, Option.toList_some, evc_snoc, evc_one'])
      obtain ⟨ek, ec, en⟩ := e
      simp only at c0 c1 c2
      have i1 : (q : Int) < (n : Int) := by omega
      have e3 : IntKind.i64.wrap ((q : Int) + 1) = ((q + 1 : Nat) : Int) := by rw [IntWalk.i64_in _ (by omega)]; rfl
      have HLT := Lib.hid hlt
      have hjS : Hid (JS wr [] wr) := Lib.hid (J.start wr)
      have hmx : Tryz.prog.follows .mixedOrders = true := by kernel_rfl
      have hbb2 : bb < wr.heap.size := by have := hjr.out.below.size; omega
      clear he hlt a0 a1 a2 a3 b0 b1 b2 b3
      go_wp2
      refine wp_region_build 21 _ #[.int .i64 ek, .int .i64 ec, .int .i64 en] 45 1 _ 42 JS.closed hjS.out hmx (by kernel_rfl) (by kernel_rfl) rfl rfl rfl ?_
      simp only [List.take_succ_cons, List.take_zero, List.drop_succ_cons, List.drop_zero]
      apply Exists.intro
      have hTw : T < wr.heap.size := by omega
      have hww : w.heap.size < wr.heap.size := by omega
      refine ⟨fun w10 h10 => ?_, ?_, fun B W1 hJ1 hb1 hB hBx => ?_⟩
      · haveI := Ext.some h10
        have q0 := ext_old h10 (a := ⟨T, 4, none⟩) hTw b4
        have q1 := ext_old h10 (a := ⟨w.heap.size, 4, none⟩) hww a4
        have q2 := ext_old h10 (a := ⟨bb, o + q * 3, none⟩) hbb2 c0
        have q3 := ext_old h10 (a := ⟨bb, o + q * 3 + 1, none⟩) hbb2 c1
        have q4 := ext_old h10 (a := ⟨bb, o + q * 3 + 2, none⟩) hbb2 c2
        repeat go_big_quiet_step (fail)
        exact wpQuiet_nil rfl
      · intro w'
        simp [execOp, Act.eval, go_sem]
      have hB1 : Below wr.heap.size wr W1 := J.below hJ1
      have hj1 := Lib.hid (hjr.out.next hB1)
      have hrow1 := own_below hown hB1 (fun k hk => (hown.lt k hk).2)
      have hW1 : T + 1 ≤ W1.heap.size := by have := hB1.size; omega
      have HBx := Lib.hid hBx
      clear a4 b4 c0 c1 c2 hJ1 hb1 hjS hB1 hown hBx hjr
      change wpList _ _ _ _ _ _
      go_wp2_with (at_builtin; go_loud (refine wpList_append_own_at _ rfl (.tmp 22) (.tmp 42) 29 rfl (T + 1) 45 i0 (.agg #[.int .i64 0, .int .i64 0, .int .i64 0]) 3 24 Tryz.underlying29 hi hz0 hz1 hz2 rfl (by decide) _ _ _ rfl hrow1 ⟨B, 0, none⟩ 1 1 [.int .i64 ek, .int .i64 ec, .int .i64 en] rfl rfl (bx3 HBx.out) (three_one _ _ _) (by unfold maxLen; omega) (by omega) (by omega) ?_); go_loud (intro v' w11 hown11 hg11 _ hat11; obtain ⟨g', c3, rfl⟩ := own_some hown11 (Nat.succ_pos q); have hT11 := Lib.hid (j_grow hj1.out hg11 (fun g e => (hrow1.lt g e).1) (by omega) (fun x hx => by simp at hx; rcases hx with rfl | rfl | rfl <;> simp only <;> omega)); obtain ⟨b0, b1, b2, b3, b4⟩ := (hT11.out.bx 0 rfl).c5; obtain ⟨f0, f1, f2, f3, f4⟩ := (hT11.out.bx 0 rfl).f5))
      go_roundw
      case rel =>
        refine ⟨q + 1, .slice (some ⟨g', 0, none⟩) (q + 1) c3, by omega, rfl, Lib.hid (hT11.out.put (by omega) (fun x hx => by simp at hx; rcases hx with rfl | rfl <;> simp only <;> omega) 4 (.slice (some ⟨g', 0, none⟩) (q + 1) c3)), ?_⟩
        rw [HT.out, evc_one']
        exact hown11.kept (grown_cell _ _ _ _) (.inr fun e => by have := (hown11.lt _ e).1; omega)
      case measure => have := HLT.out; simp [intOf]; omega
    · obtain rfl : q = n := by omega
      rw [List.take_of_length_le (by rw [HN.out]; exact Nat.le_refl _)] at hown
      obtain ⟨A5, c5, rfl, hcap, _, _⟩ := own_formN hown (by decide)
      obtain ⟨b0, b1, b2, b3, b4⟩ := (hjr.out.bx 0 rfl).c5
      obtain ⟨z0, z1, z2, z3, z4⟩ := (hjr.out.bx 1 rfl).c5
      obtain ⟨f0, f1, f2, f3, f4⟩ := (hjr.out.bx 1 rfl).f5
      have HO := Lib.hid hown
      clear hown
      go_wp2
      have hne : ∀ x ∈ ([] : List (Nat × Array Value)), x.1 ≠ w.heap.size + 1 := fun x hx => by cases hx
      have hje := (((((hjr.out.less (bs' := [(w.heap.size + 1, #[.bool false, .bool false, .int .i64 0, .int .u64 0, .slice none 0 0])]) (by simp)).put (by omega) hne 0 (.bool m)).put (by omega) hne 1 (.bool g)).put (by omega) hne 2 (.int .i64 cp)).put (by omega) hne 3 (.int .u64 bl)).put (by omega) hne 4 (.slice A5 q c5)
      obtain ⟨k0, k1, k2, k3, k4⟩ := (hje.bx 0 rfl).c5
      have ho := fun (W : World) (j : Nat) (u : Value) (h : W.ownsRow (T + 1) 45 3 (.slice A5 q c5) q (evc l)) => h.kept (grown_cell W (w.heap.size + 1) j u) (.inr fun e => by have := (h.lt _ e).1; omega)
      have ho5 := ho _ 4 (.slice A5 q c5) (ho _ 3 (.int .u64 bl) (ho _ 2 (.int .i64 cp) (ho _ 1 (.bool g) (ho _ 0 (.bool m) HO.out))))
      obtain ⟨A', c', e', _, hs', _⟩ := own_formN ho5 (by decide)
      injection e' with e1 _ e2
      subst e1 e2
      refine bodyPost_ret (v := .agg #[.bool m, .bool g, .int .i64 cp, .int .u64 bl, .slice A5 q c5]) (by simp [results, Tryz.results10, go_sem, k0, k1, k2, k3, k4]) rfl ⟨A5, c5, rfl, Lib.hid ⟨hje.below, hs', hcap⟩⟩
end Go.Proofs.YthpbcbbiampamaaGreatDoor.Scr
