/- Same, of two that are the same. -/
import Derived.Test.YthpbcbbiampamaaGreatDoorScrQ
namespace Go.Proofs.YthpbcbbiampamaaGreatDoor.Scr
open Go.RowKit Go.Maps Go.Proofs.YthpbcbbiampamaaGreatDoor.ScrP Go.Proofs.YthpbcbbiampamaaGreatDoor.Box Go.Proofs.YthpbcbbiampamaaGreatDoor.Held Go.Proofs.YthpbcbbiampamaaGreatDoor.Sees Go.Proofs.YthpbcbbiampamaaGreatDoor.Jrn
set_option linter.unusedVariables false
set_option linter.unusedSimpArgs false
set_option maxRecDepth 100000

set_option maxHeartbeats 6400000 in
theorem Same_any (t : T) (A B : Option Addr) (n c d : Nat) (w : World) (hn : t.es.length = n) (hN : n ≤ 100000) (hA : Sees w w.heap.size A (evc t.es)) (hB : Sees w w.heap.size B (evc t.es)) :
    Calls Tryz.prog 13 #[tv t A n c, tv t B n d] w (Says w (.bool true)) := by
  obtain ⟨m, g, cp, bl, l⟩ := t
  simp only at hn hA hB
  unfold tv tvc
  simp only
  have HN := Lib.hid hn
  have HA := Lib.hid hA
  have HB := Lib.hid hB
  have hj0 := (J.one w #[.bool m, .bool g, .int .i64 cp, .int .u64 bl, .slice A n c] 31).push #[.bool m, .bool g, .int .i64 cp, .int .u64 bl, .slice B n d] 31
  simp only [World.size_alloc] at hj0
  have hj : Hid (JS w _ _) := Lib.hid hj0
  obtain ⟨a0, a1, a2, a3, a4⟩ := (hj0.bx 1 rfl).c5
  obtain ⟨b0, b1, b2, b3, b4⟩ := (hj0.bx 0 rfl).c5
  clear hn hA hB hj0
  go_enter Tryz.func13, Tryz.ntmps13
  go_wp2
  clear a0 a1 a2 a3 a4 b0 b1 b2 b3 b4
  go_loopw [5] (fun i wr => ∃ q : Nat, q ≤ n ∧ i = .int .i64 q ∧ Hid (JS w [(w.heap.size + 1, #[.bool m, .bool g, .int .i64 cp, .int .u64 bl, .slice B n d]), (w.heap.size, #[.bool m, .bool g, .int .i64 cp, .int .u64 bl, .slice A n c])] wr)) (fun i _ => n - (intOf i).toNat)
  case atStart => exact ⟨0, Nat.zero_le _, rfl, hj⟩
  case round =>
    obtain ⟨q, hq, rfl, hjr⟩ := hrel
    clear hj
    obtain ⟨a0, a1, a2, a3, a4⟩ := (hjr.out.bx 1 rfl).c5
    obtain ⟨b0, b1, b2, b3, b4⟩ := (hjr.out.bx 0 rfl).c5
    by_cases hlt : q < n
    · obtain ⟨e, he⟩ : ∃ e, l[q]? = some e := ⟨l[q]'(by rw [HN.out]; exact hlt), List.getElem?_eq_getElem _⟩
      obtain ⟨bb, o, rfl, hbb, c0, c1, c2⟩ := sees_ev HA.out (Below.refl _ w) he
      obtain ⟨bb', o', rfl, hbb', c0', c1', c2'⟩ := sees_ev HB.out (Below.refl _ w) he
      have i1 : (q : Int) < (n : Int) := by omega
      have e3 : IntKind.i64.wrap ((q : Int) + 1) = ((q + 1 : Nat) : Int) := by rw [IntWalk.i64_in _ (by omega)]; rfl
      have HLT := Lib.hid hlt
      obtain ⟨ek, ec, en⟩ := e
      simp only at c0 c1 c2 c0' c1' c2'
      clear he hlt
      go_wp2
      refine wp_region_tail 11 _ JS.closed hjr.out (by kernel_rfl) (by kernel_rfl) ?_
      simp only [List.take_succ_cons, List.take_zero, List.drop_succ_cons, List.drop_zero]
      apply Exists.intro
      refine ⟨fun w3 h3 => ?_, fun W3 hJ3 hb3 => ?_⟩
      · haveI := Ext.some h3
        have q0 := ext_at h3 1 4 (v := .slice (some ⟨bb, o, none⟩) n c) rfl rfl
        have q1 := ext_at h3 0 4 (v := .slice (some ⟨bb', o', none⟩) n d) rfl rfl
        have r0 := ext_old h3 (a := ⟨bb, o + q * 3, none⟩) hbb c0
        have r1 := ext_old h3 (a := ⟨bb, o + q * 3 + 1, none⟩) hbb c1
        have r2 := ext_old h3 (a := ⟨bb, o + q * 3 + 2, none⟩) hbb c2
        have s0 := ext_old h3 (a := ⟨bb', o' + q * 3, none⟩) hbb' c0'
        have s1 := ext_old h3 (a := ⟨bb', o' + q * 3 + 1, none⟩) hbb' c1'
        have s2 := ext_old h3 (a := ⟨bb', o' + q * 3 + 2, none⟩) hbb' c2'
        repeat go_big_quiet_step (fail)
        exact wpQuiet_nil rfl
      · have HJ3 := Lib.hid hJ3
        clear hJ3 a0 a1 a2 a3 a4 b0 b1 b2 b3 b4 c0 c1 c2 c0' c1' c2' hjr
        change wpList _ _ _ _ _ _
        go_wp2
        go_roundw
        case rel => exact ⟨q + 1, by omega, rfl, HJ3⟩
        case measure => have := HLT.out; simp [intOf]; omega
    · have i1 : ¬ (q : Int) < (n : Int) := by omega
      go_wp2
      go_ret
      exact ⟨rfl, J.below hjr.out⟩
end Go.Proofs.YthpbcbbiampamaaGreatDoor.Scr
