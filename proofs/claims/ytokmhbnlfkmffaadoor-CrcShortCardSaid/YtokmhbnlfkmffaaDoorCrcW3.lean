/- The walk of CrcShort. -/
import Derived.Test.YtokmhbnlfkmffaaDoorCrcW1
import Derived.Laws.OwnMore
namespace Go.Proofs.YtokmhbnlfkmffaaDoor.Walk
open Go.RowKit Go.ChangeShapes Go.Proofs.YtokmhbnlfkmffaaDoor.Plain Go.Proofs.YtokmhbnlfkmffaaDoor.Sees Go.Proofs.YtokmhbnlfkmffaaDoor.Oct Go.Proofs.YtokmhbnlfkmffaaDoor.Crc
set_option linter.unusedVariables false
attribute [local go_sem ↓] Go.wp_at_zero Go.wp_at_succ

set_option maxRecDepth 100000 in
set_option maxHeartbeats 3200000 in
theorem crcShort_walk (w : World) (ht : Tab w) (a0 : Option Addr) (len0 cap0 : Nat) (z0 : List Int)
    (hl0 : z0.length = len0) (hc0 : len0 ≤ cap0) (hx0 : cap0 ≤ maxLen) (hs0 : Sees w w.heap.size a0 (nums .u8 z0)) (hw0 : ∀ n ∈ z0, (Lit.int .u8 n).wf = true) :
    Calls Tryd.prog 8 #[.slice a0 len0 cap0] w fun e w' => e = .returned (.bool true) ∧ Below w.heap.size w w' := by
  unfold maxLen at hx0
  have hz0 : ∀ x ∈ z0, 0 ≤ x ∧ x ≤ 255 := fun x hx => bounds_u8 (hw0 x hx)
  have HL0 := Lib.hid hl0
  have HZ0 := Lib.hid hz0
  have HT := Lib.hid ht
  clear hl0 hw0 hz0 ht
  by_cases hbig : 1000 < len0
  · go_enter Tryd.func8, Tryd.ntmps8
    go_wp2_with (go_at_call 9; refine (awake_any _ HT.out).mono ?_; rintro e w1 ⟨rfl, hd1⟩)
    go_ret
    exact ⟨rfl, hd1⟩
  · have h1 : len0 ≤ 1000 := by omega
    clear hbig
    obtain ⟨i0, hi, hq0, hq1, hq2⟩ := info_parts info_u8
    have hsl : (z0 ++ lowB 4 (crc z0 : Nat)).length = len0 + 4 := by rw [List.length_append, HL0.out, lowB_length]
    have HSL := Lib.hid hsl
    clear hsl
    go_enter Tryd.func8, Tryd.ntmps8
    go_wp2_with (first
      | (go_at_call 9; refine (awake_any _ HT.out).mono ?_; rintro e w1 ⟨rfl, hd1⟩)
      | (go_at_call 12
         with_reducible refine (Open_short a0 _ cap0 _ (by omega)).mono ?_
         rintro e w2 ⟨rfl, rfl⟩)
      | (go_at_call 14
         refine (Seal_any a0 len0 cap0 z0 _ HL0.out (by omega) hc0 (HT.out.next hd1) ((hs0.below hd1 (Nat.le_refl _)).more hd1.size) HZ0.out).mono ?_
         rintro e w3 ⟨v3, rfl, ho3, hd3⟩
         obtain ⟨A3, C3, rfl, hC3, hs3, hlt3⟩ := own_form ho3
         have hB3 := hd1.trans (hd3.mono hd1.size)
         have kc := conv_sees (c := C3) hs3 HSL.out)
      | (go_at_call 12
         refine (Open_yes A3 len0 C3 z0 _ HL0.out (by omega) hC3 (HT.out.next hB3) hs3 HZ0.out).mono ?_
         rintro e w4 ⟨v4, rfl, ho4, hd4⟩
         obtain ⟨A4, C4, rfl, hC4, hs4, hlt4⟩ := own_form ho4
         have hB4 := hB3.trans (hd4.mono hB3.size)))
    all_goals
      have hd34 : Below w3.heap.size w3 w4 := hd4
      go_loopw [10] (fun i wr => ∃ (k : Nat) (xs : List Int), k ≤ len0 ∧ i = .int .i64 k ∧ xs.length = len0 ∧ wr.ownsRow w3.heap.size 5 1 (.slice A4 len0 C4) len0 (nums .u8 xs) ∧ Below w3.heap.size w3 wr) (fun i _ => len0 - (intOf i).toNat)
      case atStart => exact ⟨0, z0, Nat.zero_le _, rfl, HL0.out, ho4, hd34⟩
      case round =>
        obtain ⟨k, xs, hk, rfl, hxl, hown, hbel⟩ := hrel
        have hsz := hbel.size
        by_cases hlt : k < len0
        · obtain ⟨g, c, hA, hg⟩ : ∃ g c, A4 = some ⟨g, 0, none⟩ ∧ c = g := by
            rcases hown.2 with ⟨hv, h0⟩ | ⟨g, cap, cur, hv, _⟩
            · omega
            · injection hv with hv; exact ⟨g, g, hv, rfl⟩
          subst hA
          clear hg
          have hgb := hown.lt g rfl
          have hc1 := hown.cellAt k (by omega)
          rw [nums_at .u8 xs k (by omega)] at hc1
          have hf1 := hown.frozenAt k
          have HX := Lib.hid hxl
          clear hxl
          generalize xs[k]?.getD 0 = x at *
          go_wp2
          go_roundw
          case rel =>
            refine ⟨k + 1, xs.set k ((x + 1) % 256), by omega, by go_num, by rw [List.length_set]; exact HX.out, ?_, hbel.setCell hgb.1 _⟩
            have h5 := (hown.stored k (.int .u8 ((x + 1) % 256))).1
            rw [nums, List.map_set]
            exact h5
          case measure => simp [intOf]; omega
        · obtain rfl : k = len0 := by omega
          go_wp2_with (at_builtin
                       refine wpList_append_own_at _ rfl (.tmp 47) (.tmp 48) 22 rfl w3.heap.size 5 i0 (.int .u8 0) 1 1 Tryd.underlying22 hi hq0 hq1 hq2 rfl (by omega) _ k _ rfl (hown.alloc _) ⟨wr.heap.size, 0, none⟩ 1 1 [.int .u8 5] rfl rfl (new_cell _ _ _) (one_cell _ _) (by unfold maxLen; omega) (by omega) (by simp; omega) ?_
                       intro v5 w5 hown5 hg5 _ hat5
                       obtain ⟨A5, C5, rfl, _, _, _⟩ := own_form hown5
                       have hb5 : Below w3.heap.size w3 w5 := (hbel.alloc hsz _).grown hg5 (by simp; omega) (fun g hg => (hown.lt g hg).1)
                       have kf := conv_sees (c := C3) (hs3.below hb5 (Nat.le_refl _)) HSL.out
                       clear kc)
          go_ret
          exact ⟨rfl, hB3.trans (hb5.mono hB3.size)⟩

end Go.Proofs.YtokmhbnlfkmffaaDoor.Walk
