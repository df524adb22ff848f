/- The walk of CrcSeals. -/
import Derived.Test.YtokmhbnlfkmffaaDoorCrcW1
import Derived.Deep.RegionHeld
namespace Go.Proofs.YtokmhbnlfkmffaaDoor.Walk
open Go.RowKit Go.ChangeShapes Go.Proofs.YtokmhbnlfkmffaaDoor.Plain Go.Proofs.YtokmhbnlfkmffaaDoor.Sees Go.Proofs.YtokmhbnlfkmffaaDoor.Oct Go.Proofs.YtokmhbnlfkmffaaDoor.Crc
set_option linter.unusedVariables false
attribute [local go_sem ↓] Go.wp_at_zero Go.wp_at_succ

theorem Open_few (a : Option Addr) (m c : Nat) (w : World) (hm : m < 4) :
    Calls Tryd.prog 12 #[.slice a m c] w fun e w' => ∃ A C, e = .returned (.tuple #[.slice A 0 C, .bool false]) ∧ Sees w' w'.heap.size A (nums .u8 []) ∧ Below w.heap.size w w' :=
  (Open_short a m c w hm).mono fun e w' ⟨h, h'⟩ => ⟨none, 0, h, .inl rfl, h' ▸ Below.refl _ _⟩

/-- What crc.Open and the reference's Open answer of the same bytes: the same. -/
def BothOpen (w : World) (a : Option Addr) (m c : Nat) (z : List Int) : Prop :=
  ∃ (l : List Int) (b : Bool), l.length ≤ m ∧
    (∀ W, Below w.heap.size w W → Calls Tryd.prog 12 #[.slice a m c] W fun e w' => ∃ A C, e = .returned (.tuple #[.slice A l.length C, .bool b]) ∧ Sees w' w'.heap.size A (nums .u8 l) ∧ Below W.heap.size W w') ∧
    (∀ W, Calls Tryd.prog 13 #[.string (strOfNums z)] W fun e w' => e = .returned (.tuple #[.string (strOfNums l), .bool b]) ∧ Below W.heap.size W w')

theorem both_open (w : World) (a : Option Addr) (m c : Nat) (z : List Int) (hl : z.length = m) (hm : m ≤ 900000) (hc : m ≤ c) (ht : Tab w) (hs : Sees w w.heap.size a (nums .u8 z)) (hb : ∀ x ∈ z, 0 ≤ x ∧ x ≤ 255) : BothOpen w a m c z := by
  by_cases h4 : m < 4
  · exact ⟨[], false, Nat.zero_le _, fun W _ => Open_few a m c W h4, fun W => (refOpen_short _ W (by rw [strOfNums_size]; omega)).mono fun e w' ⟨h, h'⟩ => ⟨h, h' ▸ Below.refl _ _⟩⟩
  · obtain ⟨n, rfl⟩ : ∃ n, m = n + 4 := ⟨m - 4, by omega⟩
    have hz : z = z.take n ++ z.drop n := (List.take_append_drop n z).symm
    have hpl : (z.take n).length = n := by rw [List.length_take]; omega
    have hql : (z.drop n).length = 4 := by rw [List.length_drop]; omega
    have hpb : ∀ x ∈ z.take n, 0 ≤ x ∧ x ≤ 255 := fun x h => hb x (List.mem_of_mem_take h)
    have hqb : ∀ x ∈ z.take n ++ z.drop n, 0 ≤ x ∧ x ≤ 255 := hz ▸ hb
    generalize z.take n = pre at *
    generalize z.drop n = q at *
    subst hz
    by_cases hq : q = lowB 4 (crc pre : Nat)
    · subst hq
      refine ⟨pre, true, by omega, fun W hW => ?_, fun W => refOpen_yes pre n W hpl (by omega) hpb⟩
      refine (Open_yes a n c pre W hpl (by omega) hc (ht.next hW) ((hs.below hW (Nat.le_refl _)).more hW.size) hpb).mono ?_
      rintro e w' ⟨v, rfl, ho, hd⟩
      obtain ⟨A', c', rfl, _, hs', _⟩ := own_form ho
      exact ⟨A', c', by rw [hpl], hs', hd⟩
    · refine ⟨[], false, Nat.zero_le _, fun W hW => ?_, fun W => refOpen_no pre q n W hpl hql (by omega) hqb hq⟩
      refine (Open_no a n c pre q W hpl hql (by omega) hc (ht.next hW) ((hs.below hW (Nat.le_refl _)).more hW.size) hqb hq).mono ?_
      rintro e w' ⟨rfl, hd⟩
      exact ⟨none, 0, rfl, .inl rfl, hd⟩

set_option maxRecDepth 100000 in
set_option maxHeartbeats 3200000 in
theorem crcSeals_walk (w : World) (ht : Tab w) (a0 : Option Addr) (len0 cap0 : Nat) (z0 : List Int) (a1 : Option Addr) (len1 cap1 : Nat) (z1 : List Int)
    (hl0 : z0.length = len0) (hc0 : len0 ≤ cap0) (hx0 : cap0 ≤ maxLen) (hs0 : Sees w w.heap.size a0 (nums .u8 z0)) (hw0 : ∀ n ∈ z0, (Lit.int .u8 n).wf = true)
    (hl1 : z1.length = len1) (hc1 : len1 ≤ cap1) (hx1 : cap1 ≤ maxLen) (hs1 : Sees w w.heap.size a1 (nums .u8 z1)) (hw1 : ∀ n ∈ z1, (Lit.int .u8 n).wf = true) :
    Calls Tryd.prog 4 #[.slice a0 len0 cap0, .slice a1 len1 cap1] w fun e w' => e = .returned (.bool true) ∧ Below w.heap.size w w' := by
  unfold maxLen at hx0 hx1
  have hz0 : ∀ x ∈ z0, 0 ≤ x ∧ x ≤ 255 := fun x hx => bounds_u8 (hw0 x hx)
  have hz1 : ∀ x ∈ z1, 0 ≤ x ∧ x ≤ 255 := fun x hx => bounds_u8 (hw1 x hx)
  have HL0 := Lib.hid hl0
  have HZ0 := Lib.hid hz0
  have HL1 := Lib.hid hl1
  have HZ1 := Lib.hid hz1
  have HT := Lib.hid ht
  clear hl0 hw0 hz0 ht hl1 hw1 hz1
  by_cases hbig : 1000 < len0 ∨ 1000 < len1
  · rcases (show 1000 < len0 ∨ ¬ 1000 < len0 ∧ 1000 < len1 by omega) with h | ⟨h, h2⟩
    all_goals
      go_enter Tryd.func4, Tryd.ntmps4
      go_wp2_with (go_at_call 9; refine (awake_any _ HT.out).mono ?_; rintro e w1 ⟨rfl, hd1⟩)
      go_ret
      exact ⟨rfl, hd1⟩
  · have h1 : len0 ≤ 1000 := by omega
    have h2 : len1 ≤ 1000 := by omega
    clear hbig
    obtain ⟨l, b, hl, hopen, hropen⟩ := both_open w a1 len1 cap1 z1 HL1.out (by omega) hc1 HT.out hs1 HZ1.out
    have HO := Lib.hid hopen
    have HR := Lib.hid hropen
    have hseal : ∀ W, Below w.heap.size w W → Calls Tryd.prog 14 #[.slice a0 len0 cap0] W fun e w' => ∃ A C, e = .returned (.slice A (len0 + 4) C) ∧ Sees w' w'.heap.size A (nums .u8 (z0 ++ lowB 4 (crc z0 : Nat))) ∧ Below W.heap.size W w' := fun W hW => by
      refine (Seal_any a0 len0 cap0 z0 W HL0.out (by omega) hc0 (HT.out.next hW) ((hs0.below hW (Nat.le_refl _)).more hW.size) HZ0.out).mono ?_
      rintro e w2 ⟨v2, rfl, ho2, hd2⟩
      obtain ⟨A2, C2, rfl, hC2, hs2, hlt2⟩ := own_form ho2
      exact ⟨A2, C2, rfl, hs2, hd2⟩
    have hrseal : ∀ W, Calls Tryd.prog 15 #[.string (strOfNums z0)] W fun e w' => e = .returned (.string (strOfNums (z0 ++ lowB 4 (crc z0 : Nat)))) ∧ Below W.heap.size W w' := fun W => refSeal_any z0 W (by rw [HL0.out]; omega) HZ0.out
    have hsl : (z0 ++ lowB 4 (crc z0 : Nat)).length = len0 + 4 := by rw [List.length_append, HL0.out, lowB_length]
    generalize z0 ++ lowB 4 (crc z0 : Nat) = sl at *
    generalize hll : l.length = ll at *
    have HLL := Lib.hid hll
    have HS := Lib.hid hseal
    have HRS := Lib.hid hrseal
    have HSL := Lib.hid hsl
    clear hopen hropen hseal hrseal hsl hll
    go_enter Tryd.func4, Tryd.ntmps4
    go_wp2_with (first
      | (go_at_call 9; refine (awake_any _ HT.out).mono ?_; rintro e w1 ⟨rfl, hd1⟩)
      | (go_at_call 12
         refine (HO.out _ hd1).mono ?_
         rintro e w2 ⟨A2, C2, rfl, hs2, hd2⟩
         have hd3 := hd1.trans (hd2.mono hd1.size)
         have kc := conv_sees (c := cap1) (hs1.below hd3 (Nat.le_refl _)) HL1.out)
      | (go_at_call 13
         refine (HR.out _).mono ?_
         rintro e w4 ⟨rfl, hd4⟩))
    have hd5 := hd3.trans (hd4.mono hd3.size)
    have hs5 := hs2.below hd4 (Nat.le_refl _)
    clear kc
    have j0 : ∀ W, Below w.heap.size w W → (convert 22 9 (.slice a0 len0 cap0)).run Tryd.prog W = .ok (.string (strOfNums z0)) W := fun W h => conv_sees (c := cap0) (hs0.below h (Nat.le_refl _)) HL0.out
    have j2 : ∀ W, Below w4.heap.size w4 W → (convert 22 9 (.slice A2 ll C2)).run Tryd.prog W = .ok (.string (strOfNums l)) W := fun W h => conv_sees (c := C2) ((hs5.more hd4.size).below h (Nat.le_refl _)) HLL.out
    have J0 := Lib.hid j0
    have J2 := Lib.hid j2
    clear j0 j2
    have kA := J0.out _ hd5.drew
    have kB := J2.out _ ((Below.refl _ w4).drew)
    have hle : (b == b) = true := by simp
    go_region_held (fun W' => (convert 22 9 (.slice a0 len0 cap0)).run Tryd.prog W' = .ok (.string (strOfNums z0)) W' ∧ (convert 22 9 (.slice A2 ll C2)).run Tryd.prog W' = .ok (.string (strOfNums l)) W') (first | exact ⟨kA, kB⟩ | exact ⟨kA1, kB1⟩ | exact ⟨kA2, kB2⟩ | go_keep) ((first
      | (go_at_call 14
         with_reducible refine (HS.out _ hd5.drew).mono ?_
         rintro e w6 ⟨A6, C6, rfl, hs6, hd6⟩
         have hB6 := hd5.drew.trans (hd6.mono hd5.size)
         have g6 : Below w4.heap.size w4 w6 := (Below.refl _ w4).drew.trans hd6
         have kS := conv_sees (c := C6) hs6 HSL.out
         have kA1 := J0.out _ hB6
         have kB1 := J2.out _ g6)
      | (go_at_call 15
         with_reducible refine (HRS.out _).mono ?_
         rintro e w7 ⟨rfl, hd7⟩
         have hB7 := hB6.trans (hd7.mono hB6.size)
         have g7 : Below w4.heap.size w4 w7 := g6.trans (hd7.mono g6.size)
         have kS1 := conv_sees (c := C6) (hs6.below hd7 (Nat.le_refl _)) HSL.out
         have kA2 := J0.out _ hB7
         have kB2 := J2.out _ g7)))
    all_goals
      go_wp2
      go_ret
      exact ⟨rfl, hB7⟩

end Go.Proofs.YtokmhbnlfkmffaaDoor.Walk
