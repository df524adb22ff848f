/- The contract of a table's lay. -/
import Derived.Test.YtkicijgempccfaaRatC
import Derived.Test.YtkicijgempccfaaRatI
namespace Go.Proofs.Ytkicijgempccfaa.Rat
open Go.RowKit Go.Proofs.Ytkicijgempccfaa.RatP Go.Proofs.Ytkicijgempccfaa.Once
set_option linter.unusedVariables false

theorem grown_below {a w w' : World} {g : Nat} (h : a.grownBy w (some g)) (hb : Below w.heap.size w w') : a.grownBy w' (some g) :=
  ⟨hb.os.trans h.os, hb.tape.trans h.tape, hb.output.trans h.output, Nat.le_trans h.size hb.size, fun i hi hne => (hb.block i (Nat.lt_of_lt_of_le hi h.size)).trans (h.block i hi hne)⟩
theorem grown_set {a w : World} {g : Nat} (h : a.grownBy w (some g)) (o : Nat) (u : Value) : a.grownBy (w.setCell ⟨g, o, none⟩ u) (some g) :=
  ⟨h.os, h.tape, h.output, by simpa [World.setCell] using h.size, fun i hi hne => (Below.heap_setCell w _ u i (by rintro rfl; exact hne rfl)).trans (h.block i hi hne)⟩
theorem grown_refl (w : World) (g : Nat) : w.grownBy w (some g) := World.grownBy.refl w _
theorem Tbl.next {W W' : World} {B : Nat} {r : R} {d m l : Int} {n : Nat} {q : Int} (h : Tbl W B r d m l n q) (hb : Below W.heap.size W W') : Tbl W' B r d m l n q := h.kept (hb.block B h.lt)

theorem tp_at (r : R) (s k : Nat) (hk : k < 65) : tp r (65 * s + k) = pk r (k : Int) ((s : Int) - 1) := by
  unfold tp
  rw [show (65 * s + k) % 65 = k by omega, show (65 * s + k) / 65 = s by omega]

set_option maxRecDepth 100000 in
set_option maxHeartbeats 3200000 in
theorem lay_any (r : R) (hr : r.May) (B : Nat) (w : World) (ht : Tbl w B r 0 1 0 0 0) :
    Calls Try.prog 58 #[.pointer (some ⟨B, 0, none⟩)] w fun e w' => e = .returned (.tuple #[]) ∧ Tbl w' B r 0 1 1 195 (most r) ∧ w.grownBy w' (some B) := by
  have HR := Lib.hid hr
  have HT := Lib.hid ht
  clear hr ht
  go_enter Try.func58, Try.ntmps58
  go_wp2
  go_loopw [5] (fun i wr => ∃ s : Nat, s ≤ 3 ∧ i = .int .i64 (s : Int) ∧ Hid (Tbl wr B r 0 1 0 (65 * s) (mx r (65 * s))) ∧ Hid (w.grownBy wr (some B))) (fun i _ => 3 - (intOf i).toNat)
  case atStart => exact ⟨0, by omega, rfl, HT, Lib.hid (grown_refl w B)⟩
  case round =>
    obtain ⟨s, hs, rfl, hT, hG⟩ := hrel
    by_cases hlt : s < 3
    · have r1 : (0 : Int) ≤ (s : Int) := by omega
      have r2 : (s : Int) < 3 := by omega
      go_wp2
      go_loopw [8] (fun i wr => ∃ k : Nat, k ≤ 65 ∧ i = .int .i64 (k : Int) ∧ Hid (Tbl wr B r 0 1 0 (65 * s + k) (mx r (65 * s + k))) ∧ Hid (w.grownBy wr (some B))) (fun i _ => 65 - (intOf i).toNat)
      case atStart => exact ⟨0, by omega, rfl, hT, hG⟩
      case round =>
        clear hT hG
        obtain ⟨k, hk, rfl, hT, hG⟩ := hrel
        by_cases hk1 : k < 65
        · have hp := tp_at r s k hk1
          have hm : mx r (65 * s + k + 1) = max (mx r (65 * s + k)) (tp r (65 * s + k)) := rfl
          have c0 := hT.out.c0
          have c1 := hT.out.c1
          have c2 := hT.out.c2
          have c3 := hT.out.c3
          have c4 := hT.out.c4
          have c5 := hT.out.c5
          have HM := Lib.hid hm
          have HP := Lib.hid hp
          have HK : Hid (∀ W, Calls Try.prog 66 #[val r, .int .i64 (k : Int), .int .i64 ((s : Int) - 1)] W (Says W (.int .i64 (tp r (65 * s + k))))) := Lib.hid (fun W => by rw [hp]; exact peakOf_any r HR.out _ _ W)
          clear hm hp
          unfold val at HK
          have r3 : (0 : Int) ≤ (k : Int) := by omega
          have r4 : (k : Int) < 65 := by omega
          have x1 : ∀ W, (Builtin.max_ #[3, 3] 3 #[.int .i64 (mx r (65 * s + k)), .int .i64 (tp r (65 * s + k))]).run Try.prog W = .ok (.int .i64 (mx r (65 * s + k + 1))) W := fun W => by
            rw [run_max_int2]; congr 2; have := HM.out; split <;> omega
          go_wp2_with (go_at_call 66; refine (HK.out _).mono ?_; rintro e w1 ⟨rfl, hb⟩
                       have hT1 := hT.out.next hb
                       have hG1 := grown_below hG.out hb
                       have b1 : w1.cell? ⟨B, 10 + s * 65 + k, none⟩ = some (.int .i64 0) := by
                         rw [show 10 + s * 65 + k = 10 + (65 * s + k) by omega, hT1.cp (65 * s + k) (by omega), if_neg (by omega)]
                       have f1 : w1.frozen? ⟨B, 10 + s * 65 + k, none⟩ = false := hT1.fr _
                       have f2 : w1.frozen? ⟨B, 205, none⟩ = false := hT1.fr _
                       have hT2 := hT1.set_p (by omega)
                       rw [show 10 + (65 * s + k) = 10 + s * 65 + k by omega] at hT2
                       have b2 := hT2.cq
                       have HT2 := Lib.hid hT2
                       have HG1 := Lib.hid hG1
                       clear hT hG hb hT1 hG1 hT2)
          go_roundw
          case rel => exact ⟨k + 1, by omega, by go_num, Lib.hid (HT2.out.set_q _), Lib.hid (grown_set (grown_set HG1.out _ _) _ _)⟩
          case measure => simp [intOf]; omega
        · obtain rfl : k = 65 := by omega
          go_wp2
          go_roundw
          case rel => exact ⟨s + 1, by omega, by go_num, hT, hG⟩
          case measure => simp [intOf]; omega
    · obtain rfl : s = 3 := by omega
      have b1 := hT.out.cl
      have f1 := hT.out.fr 9
      have e1 : IntKind.i64.wrap (0 + 1) = 1 := rfl
      go_wp2_with (go_at_call 67; refine (addI64_any _ _ 1 _ e1 b1 f1).mono ?_; rintro e w' ⟨rfl, rfl⟩)
      go_end0
      exact ⟨rfl, hT.out.set_l 1, grown_set hG.out _ _⟩

end Go.Proofs.Ytkicijgempccfaa.Rat
