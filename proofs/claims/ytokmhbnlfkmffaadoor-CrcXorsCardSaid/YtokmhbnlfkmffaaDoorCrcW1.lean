/- The walk of CrcSame. -/
import Derived.Test.YtokmhbnlfkmffaaDoorCrcD
import Derived.ProofKit
namespace Go.Proofs.YtokmhbnlfkmffaaDoor.Walk
open Go.RowKit Go.ChangeShapes Go.Proofs.YtokmhbnlfkmffaaDoor.Plain Go.Proofs.YtokmhbnlfkmffaaDoor.Sees Go.Proofs.YtokmhbnlfkmffaaDoor.Oct Go.Proofs.YtokmhbnlfkmffaaDoor.Crc
set_option linter.unusedVariables false

theorem Of_newest (w1 w2 : World) (A : Option Addr) (n c : Nat) (bs : List Int) (t : TypeId) (ht : Tab w2) (hl : bs.length = n) (hn : n ≤ 1000000) (hc : n ≤ c) (hs : Sees w2 w2.heap.size A (nums .u8 bs)) (hb : ∀ b ∈ bs, 0 ≤ b ∧ b ≤ 255) :
    Calls Tryd.prog 11 #[.slice (some ⟨w2.heap.size, 0, none⟩) 1 1] (w2.alloc (.cells #[.slice A n c] t)) fun e w' => e = .returned (.int .u32 (crc bs : Nat)) ∧ w2.alloc (.cells #[.slice A n c] t) = w' := by
  have hb2 := (Below.refl w2.heap.size w2).alloc (Nat.le_refl _) (.cells #[.slice A n c] t)
  subst hl
  exact Of_one w2.heap.size ⟨A, c, bs⟩ _ (ht.next hb2) hn (by simp) (by rw [cell_of_row _ w2.heap.size 0 _ t (0, 0) (heap_alloc_new _ _)]; rfl)
    ⟨hc, (hs.below hb2 (Nat.le_refl _)).more hb2.size, hb⟩

set_option maxHeartbeats 1600000 in
theorem crcSame_walk (w : World) (ht : Tab w) (a0 : Option Addr) (len0 cap0 : Nat) (z0 : List Int)
    (hl0 : z0.length = len0) (hc0 : len0 ≤ cap0) (hx0 : cap0 ≤ maxLen) (hs0 : Sees w w.heap.size a0 (nums .u8 z0)) (hw0 : ∀ n ∈ z0, (Lit.int .u8 n).wf = true) :
    Calls Tryd.prog 7 #[.slice a0 len0 cap0] w fun e w' => e = .returned (.bool true) ∧ Below w.heap.size w w' := by
  unfold maxLen at hx0
  have hz0 : ∀ x ∈ z0, 0 ≤ x ∧ x ≤ 255 := fun x hx => bounds_u8 (hw0 x hx)
  have HL0 := Lib.hid hl0
  have HZ0 := Lib.hid hz0
  have HT := Lib.hid ht
  clear hl0 hw0 hz0 ht
  by_cases hbig : 2000 < len0
  · go_enter Tryd.func7, Tryd.ntmps7
    go_wp2_with (go_at_call 9; refine (awake_any _ HT.out).mono ?_; rintro e w1 ⟨rfl, hd1⟩)
    go_ret
    exact ⟨rfl, hd1⟩
  · have hsum := Lib.hid (crc_sealed z0 HZ0.out)
    have hlb := Lib.hid (fun b (h : b ∈ z0 ++ lowB 4 (crc z0 : Nat)) => (List.mem_append.1 h).elim (HZ0.out b) (lowB_mem 4 _ b))
    have hll := Lib.hid (lowB_length 4 (crc z0 : Nat))
    go_enter Tryd.func7, Tryd.ntmps7
    go_wp2_with (first
      | (go_at_call 9; refine (awake_any _ HT.out).mono ?_; rintro e w1 ⟨rfl, hd1⟩)
      | (go_at_call 14
         go_loud (refine (Seal_any a0 len0 cap0 z0 _ HL0.out (by omega) hc0 (HT.out.next hd1) ((hs0.below hd1 (Nat.le_refl _)).more hd1.size) HZ0.out).mono ?_)
         rintro e w2 ⟨v2, rfl, ho2, hd2⟩
         obtain ⟨A2, C2, rfl, hC2, hs2, hlt2⟩ := own_form ho2
         have hd3 := hd1.trans (hd2.mono hd1.size))
      | (go_at_call 11
         go_loud (refine (Of_newest w2 w2 A2 (len0 + 4) C2 _ _ (HT.out.next hd3) (by rw [List.length_append, HL0.out, hll.out]) (by omega) hC2 hs2 hlb.out).mono ?_)
         rintro e w4 ⟨rfl, rfl⟩
         rw [hsum.out]))
    go_ret
    exact ⟨rfl, hd3.alloc hd3.size _⟩

end Go.Proofs.YtokmhbnlfkmffaaDoor.Walk
