/- The walk of CrcOf. -/
import Derived.Test.YtokmhbnlfkmffaaDoorCrcW1
import Derived.Deep.RegionHeld
namespace Go.Proofs.YtokmhbnlfkmffaaDoor.Walk
open Go.RowKit Go.ChangeShapes Go.Proofs.YtokmhbnlfkmffaaDoor.Plain Go.Proofs.YtokmhbnlfkmffaaDoor.Sees Go.Proofs.YtokmhbnlfkmffaaDoor.Oct Go.Proofs.YtokmhbnlfkmffaaDoor.Crc
set_option linter.unusedVariables false
attribute [local go_sem ↓] Go.wp_at_zero Go.wp_at_succ

theorem Of_g1 (W : World) (g : Nat) (A : Option Addr) (n c : Nat) (bs : List Int) (t : TypeId) (hh : W.heap[g]? = some (.cells #[.slice A n c] t (0, 0))) (ht : Tab W) (hl : bs.length = n) (hn : n ≤ 1000000) (hc : n ≤ c) (hs : Sees W W.heap.size A (nums .u8 bs)) (hb : ∀ b ∈ bs, 0 ≤ b ∧ b ≤ 255) :
    Calls Tryd.prog 11 #[.slice (some ⟨g, 0, none⟩) 1 1] W fun e w' => e = .returned (.int .u32 (crc bs : Nat)) ∧ W = w' := by
  subst hl
  exact Of_one g ⟨A, c, bs⟩ _ ht hn (Array.getElem?_eq_some_iff.1 hh).1 (by rw [cell_of_row W g 0 _ t (0, 0) hh]; rfl) ⟨hc, hs, hb⟩

theorem Of_g4 (W : World) (g : Nat) (A1 A2 A3 : Option Addr) (n1 n2 n3 c1 c2 c3 : Nat) (x1 x2 x3 bs : List Int) (t : TypeId)
    (hh : W.heap[g]? = some (.cells #[.slice A1 n1 c1, .slice A2 n2 c2, .slice none 0 0, .slice A3 n3 c3] t (0, 0))) (ht : Tab W) (l1 : x1.length = n1) (l2 : x2.length = n2) (l3 : x3.length = n3)
    (m1 : n1 ≤ 2000) (m2 : n2 ≤ 2000) (m3 : n3 ≤ 2000) (b1 : n1 ≤ c1) (b2 : n2 ≤ c2) (b3 : n3 ≤ c3)
    (s1 : Sees W W.heap.size A1 (nums .u8 x1)) (s2 : Sees W W.heap.size A2 (nums .u8 x2)) (s3 : Sees W W.heap.size A3 (nums .u8 x3)) (hbs : x1 ++ x2 ++ x3 = bs) (hb : ∀ b ∈ bs, 0 ≤ b ∧ b ≤ 255) :
    Calls Tryd.prog 11 #[.slice (some ⟨g, 0, none⟩) 4 4] W fun e w' => e = .returned (.int .u32 (crc bs : Nat)) ∧ W = w' := by
  have hrow := fun j => cell_of_row W g j _ t (0, 0) hh
  subst l1 l2 l3
  have := Of_any 4 4 (some ⟨g, 0, none⟩) [⟨A1, c1, x1⟩, ⟨A2, c2, x2⟩, ⟨none, 0, []⟩, ⟨A3, c3, x3⟩] W rfl (by omega)
    (fun r hr => by simp at hr; rcases hr with rfl | rfl | rfl | rfl <;> simp <;> omega) ht
    (.inr ⟨g, 0, rfl, (Array.getElem?_eq_some_iff.1 hh).1, fun j u hu => by
      rw [Nat.zero_add, hrow j]
      match j, hu with
      | 0, hu => exact hu
      | 1, hu => exact hu
      | 2, hu => exact hu
      | 3, hu => exact hu⟩)
    (fun r hr => by
      simp at hr
      rcases hr with rfl | rfl | rfl | rfl
      · exact ⟨b1, s1, fun b h => hb b (by rw [← hbs]; simp [h])⟩
      · exact ⟨b2, s2, fun b h => hb b (by rw [← hbs]; simp [h])⟩
      · exact ⟨Nat.le_refl _, .inl rfl, by simp⟩
      · exact ⟨b3, s3, fun b h => hb b (by rw [← hbs]; simp [h])⟩)
  rwa [show flatB [⟨A1, c1, x1⟩, ⟨A2, c2, x2⟩, ⟨none, 0, []⟩, ⟨A3, c3, x3⟩] = bs by simp [flatB, ← hbs]] at this

set_option maxRecDepth 100000 in
set_option maxHeartbeats 6400000 in
theorem crcOf_walk (w : World) (ht : Tab w) (a0 : Option Addr) (len0 cap0 : Nat) (z0 : List Int) (a1 a2 : Int)
    (hl0 : z0.length = len0) (hc0 : len0 ≤ cap0) (hx0 : cap0 ≤ maxLen) (hs0 : Sees w w.heap.size a0 (nums .u8 z0)) (hw0 : ∀ n ∈ z0, (Lit.int .u8 n).wf = true)
    (w1 : (Lit.int .u16 a1).wf = true) (w2 : (Lit.int .u16 a2).wf = true) :
    Calls Tryd.prog 3 #[.slice a0 len0 cap0, .int .u16 a1, .int .u16 a2] w fun e w' => e = .returned (.bool true) ∧ Below w.heap.size w w' := by
  unfold maxLen at hx0
  have hz0 : ∀ x ∈ z0, 0 ≤ x ∧ x ≤ 255 := fun x hx => bounds_u8 (hw0 x hx)
  have hp := bounds_u16 w1
  have hq := bounds_u16 w2
  obtain ⟨p, rfl⟩ := Int.eq_ofNat_of_zero_le hp.1
  obtain ⟨q, rfl⟩ := Int.eq_ofNat_of_zero_le hq.1
  have HL0 := Lib.hid hl0
  have HZ0 := Lib.hid hz0
  have HT := Lib.hid ht
  clear hl0 hw0 hz0 ht w1 w2
  by_cases hbig : 2000 < len0
  · go_enter Tryd.func3, Tryd.ntmps3
    go_wp2_with (go_at_call 9; refine (awake_any _ HT.out).mono ?_; rintro e w1 ⟨rfl, hd1⟩)
    go_ret
    exact ⟨rfl, hd1⟩
  · have h1 : len0 ≤ 2000 := by omega
    clear hbig
    have hi := Nat.mod_lt p (show 0 < len0 + 1 by omega)
    have e1 : (p : Int) % ((len0 : Int) + 1) = ((p % (len0 + 1) : Nat) : Int) := by rw [Int.natCast_emod]; rfl
    generalize p % (len0 + 1) = i at *
    have hd := Nat.mod_lt q (show 0 < len0 - i + 1 by omega)
    have e2 : (q : Int) % ((len0 : Int) - (i : Int) + 1) = ((q % (len0 - i + 1) : Nat) : Int) := by
      rw [Int.natCast_emod]
      congr 1
      omega
    generalize q % (len0 - i + 1) = d at *
    obtain ⟨j, hj⟩ : ∃ j, i + d = j := ⟨_, rfl⟩
    have e3 : (i : Int) + (d : Int) = (j : Int) := by omega
    have hrows : z0.take i ++ (z0.drop i).take (j - i) ++ z0.drop j = z0 := by
      have h5 : z0.drop j = (z0.drop i).drop (j - i) := by rw [List.drop_drop]; congr 1; omega
      rw [h5, List.append_assoc, List.take_append_drop, List.take_append_drop]
    have hl1 : (z0.take i).length = i := by rw [List.length_take, HL0.out]; omega
    have hl2 : ((z0.drop i).take (j - i)).length = j - i := by rw [List.length_take, List.length_drop, HL0.out]; omega
    have hl3 : (z0.drop j).length = len0 - j := by rw [List.length_drop, HL0.out]
    have s1 := sees_front hs0 i
    have s2 : Sees w w.heap.size (if cap0 = i then a0 else a0.map (·.add i)) (nums .u8 ((z0.drop i).take (j - i))) := sees_front (by have := sees_cut hs0 i (c := cap0) (by rw [nums_length, HL0.out]; exact hc0); rwa [nums, ← List.map_drop] at this) (j - i)
    have s3 : Sees w w.heap.size (if cap0 = j then a0 else a0.map (·.add j)) (nums .u8 (z0.drop j)) := by have := sees_cut hs0 j (c := cap0) (by rw [nums_length, HL0.out]; exact hc0); rwa [nums, ← List.map_drop] at this
    generalize z0.take i = x1 at *
    generalize (z0.drop i).take (j - i) = x2 at *
    generalize z0.drop j = x3 at *
    have g1 : (0 : Int) ≤ (i : Int) := by omega
    have g2 : (i : Int) ≤ (j : Int) := by omega
    have g3 : (j : Int) ≤ (len0 : Int) := by omega
    have g4 : (len0 : Int) ≤ (cap0 : Int) := by omega
    have g5 : (j : Int) ≤ (cap0 : Int) := by omega
    have g6 : (i : Int) ≤ (cap0 : Int) := by omega
    have g7 : (0 : Int) ≤ (j : Int) := by omega
    have n1 : i ≤ 2000 := by omega
    have n2 : j - i ≤ 2000 := by omega
    have n3 : len0 - j ≤ 2000 := by omega
    have HRO := Lib.hid hrows
    have HL1 := Lib.hid hl1
    have HL2 := Lib.hid hl2
    have HL3 := Lib.hid hl3
    clear hrows hl1 hl2 hl3 hj hi hd
    rcases (show (cap0 = i ∧ cap0 = j) ∨ (¬ cap0 = i ∧ cap0 = j) ∨ (¬ cap0 = i ∧ ¬ cap0 = j) by omega) with ⟨c1, c2⟩ | ⟨c1, c2⟩ | ⟨c1, c2⟩
    case inr.inr =>
      simp only [if_neg c1, if_neg c2] at s2 s3
      go_enter Tryd.func3, Tryd.ntmps3
      go_wp2_with (first
        | (go_at_call 9; refine (awake_any _ HT.out).mono ?_; rintro e w1 ⟨rfl, hd1⟩
           have kc := conv_sees (c := cap0) (hs0.below hd1 (Nat.le_refl _)) HL0.out)
        | (go_at_call 10; refine (refOf_any z0 _ (by rw [HL0.out]; omega) HZ0.out).mono ?_; rintro e w2 ⟨rfl, rfl⟩))
      clear kc
      have hA : ∀ W, Below w.heap.size w W → Tab W ∧ Sees W W.heap.size a0 (nums .u8 z0) ∧ Sees W W.heap.size a0 (nums .u8 x1) ∧ Sees W W.heap.size (a0.map (·.add i)) (nums .u8 x2) ∧ Sees W W.heap.size (a0.map (·.add j)) (nums .u8 x3) := fun W h =>
        ⟨HT.out.next h, (hs0.below h (Nat.le_refl _)).more h.size, (s1.below h (Nat.le_refl _)).more h.size, (s2.below h (Nat.le_refl _)).more h.size, (s3.below h (Nat.le_refl _)).more h.size⟩
      have HA := Lib.hid hA
      clear hA
      have hB1 : Below w.heap.size w (w1.alloc (.cells #[.slice a0 len0 cap0] 22)).drew := (hd1.alloc hd1.size _).drew
      have hW1 := HA.out _ hB1
      have hN1 : (w1.alloc (.cells #[.slice a0 len0 cap0] 22)).drew.heap[w1.heap.size]? = some (.cells #[.slice a0 len0 cap0] 22 (0, 0)) := heap_alloc_new w1 _
      have hB2 : Below w.heap.size w ((w1.alloc (.cells #[.slice a0 len0 cap0] 22)).alloc (.cells #[.slice a0 i cap0, .slice (a0.map (·.add i)) (j - i) (cap0 - i), .slice none 0 0, .slice (a0.map (·.add j)) (len0 - j) (cap0 - j)] 22)).drew :=
        ((hd1.alloc hd1.size _).alloc (by have := hd1.size; simp; omega) _).drew
      have hW2 := HA.out _ hB2
      have hN2 : ((w1.alloc (.cells #[.slice a0 len0 cap0] 22)).alloc (.cells #[.slice a0 i cap0, .slice (a0.map (·.add i)) (j - i) (cap0 - i), .slice none 0 0, .slice (a0.map (·.add j)) (len0 - j) (cap0 - j)] 22)).drew.heap[w1.heap.size + 1]? = some (.cells #[.slice a0 i cap0, .slice (a0.map (·.add i)) (j - i) (cap0 - i), .slice none 0 0, .slice (a0.map (·.add j)) (len0 - j) (cap0 - j)] 22 (0, 0)) := by
        have := heap_alloc_new (w1.alloc (.cells #[.slice a0 len0 cap0] 22)) (.cells #[.slice a0 i cap0, .slice (a0.map (·.add i)) (j - i) (cap0 - i), .slice none 0 0, .slice (a0.map (·.add j)) (len0 - j) (cap0 - j)] 22)
        rw [show (w1.alloc (.cells #[.slice a0 len0 cap0] 22)).heap.size = w1.heap.size + 1 by simp] at this
        exact this
      have HB2 := Lib.hid hB2
      have HW2 := Lib.hid hW2
      have HN2 := Lib.hid hN2
      have HB1 := Lib.hid hB1
      have HW1 := Lib.hid hW1
      have HN1 := Lib.hid hN1
      clear hB1 hW1 hN1 hB2 hW2 hN2
      go_region_held (fun W' => True) (first | trivial | go_keep) ((first
        | (go_at_call 11
           with_reducible refine (Of_g1 _ w1.heap.size a0 len0 cap0 z0 22 HN1.out HW1.out.1 HL0.out (by omega) hc0 HW1.out.2.1 HZ0.out).mono ?_
           rintro e w2 ⟨rfl, rfl⟩)
        | (go_at_call 11
           with_reducible refine (Of_g4 _ (w1.heap.size + 1) a0 (a0.map (·.add i)) (a0.map (·.add j)) i (j - i) (len0 - j) cap0 (cap0 - i) (cap0 - j) x1 x2 x3 z0 22 HN2.out HW2.out.1 HL1.out HL2.out HL3.out n1 n2 n3 (by omega) (by omega) (by omega) HW2.out.2.2.1 HW2.out.2.2.2.1 HW2.out.2.2.2.2 HRO.out HZ0.out).mono ?_
           rintro e w3 ⟨rfl, rfl⟩)))
      go_wp2
      go_ret
      exact ⟨rfl, HB2.out⟩
    case inr.inl =>
      subst c2
      simp only [if_neg c1, if_true] at s2 s3
      go_enter Tryd.func3, Tryd.ntmps3
      go_wp2_with (first
        | (go_at_call 9; refine (awake_any _ HT.out).mono ?_; rintro e w1 ⟨rfl, hd1⟩
           have kc := conv_sees (c := cap0) (hs0.below hd1 (Nat.le_refl _)) HL0.out)
        | (go_at_call 10; refine (refOf_any z0 _ (by rw [HL0.out]; omega) HZ0.out).mono ?_; rintro e w2 ⟨rfl, rfl⟩))
      clear kc
      have hA : ∀ W, Below w.heap.size w W → Tab W ∧ Sees W W.heap.size a0 (nums .u8 z0) ∧ Sees W W.heap.size a0 (nums .u8 x1) ∧ Sees W W.heap.size (a0.map (·.add i)) (nums .u8 x2) ∧ Sees W W.heap.size a0 (nums .u8 x3) := fun W h =>
        ⟨HT.out.next h, (hs0.below h (Nat.le_refl _)).more h.size, (s1.below h (Nat.le_refl _)).more h.size, (s2.below h (Nat.le_refl _)).more h.size, (s3.below h (Nat.le_refl _)).more h.size⟩
      have HA := Lib.hid hA
      clear hA
      have hB1 : Below w.heap.size w (w1.alloc (.cells #[.slice a0 len0 cap0] 22)).drew := (hd1.alloc hd1.size _).drew
      have hW1 := HA.out _ hB1
      have hN1 : (w1.alloc (.cells #[.slice a0 len0 cap0] 22)).drew.heap[w1.heap.size]? = some (.cells #[.slice a0 len0 cap0] 22 (0, 0)) := heap_alloc_new w1 _
      have hB2 : Below w.heap.size w ((w1.alloc (.cells #[.slice a0 len0 cap0] 22)).alloc (.cells #[.slice a0 i cap0, .slice (a0.map (·.add i)) (cap0 - i) (cap0 - i), .slice none 0 0, .slice a0 0 0] 22)).drew :=
        ((hd1.alloc hd1.size _).alloc (by have := hd1.size; simp; omega) _).drew
      have hW2 := HA.out _ hB2
      have hN2 : ((w1.alloc (.cells #[.slice a0 len0 cap0] 22)).alloc (.cells #[.slice a0 i cap0, .slice (a0.map (·.add i)) (cap0 - i) (cap0 - i), .slice none 0 0, .slice a0 0 0] 22)).drew.heap[w1.heap.size + 1]? = some (.cells #[.slice a0 i cap0, .slice (a0.map (·.add i)) (cap0 - i) (cap0 - i), .slice none 0 0, .slice a0 0 0] 22 (0, 0)) := by
        have := heap_alloc_new (w1.alloc (.cells #[.slice a0 len0 cap0] 22)) (.cells #[.slice a0 i cap0, .slice (a0.map (·.add i)) (cap0 - i) (cap0 - i), .slice none 0 0, .slice a0 0 0] 22)
        rw [show (w1.alloc (.cells #[.slice a0 len0 cap0] 22)).heap.size = w1.heap.size + 1 by simp] at this
        exact this
      have HB2 := Lib.hid hB2
      have HW2 := Lib.hid hW2
      have HN2 := Lib.hid hN2
      have HB1 := Lib.hid hB1
      have HW1 := Lib.hid hW1
      have HN1 := Lib.hid hN1
      clear hB1 hW1 hN1 hB2 hW2 hN2
      go_region_held (fun W' => True) (first | trivial | go_keep) ((first
        | (go_at_call 11
           with_reducible refine (Of_g1 _ w1.heap.size a0 len0 cap0 z0 22 HN1.out HW1.out.1 HL0.out (by omega) hc0 HW1.out.2.1 HZ0.out).mono ?_
           rintro e w2 ⟨rfl, rfl⟩)
        | (go_at_call 11
           with_reducible refine (Of_g4 _ (w1.heap.size + 1) a0 (a0.map (·.add i)) a0 i (cap0 - i) 0 cap0 (cap0 - i) 0 x1 x2 x3 z0 22 HN2.out HW2.out.1 HL1.out HL2.out (by rw [HL3.out]; omega) n1 n2 (by omega) (by omega) (by omega) (by omega) HW2.out.2.2.1 HW2.out.2.2.2.1 HW2.out.2.2.2.2 HRO.out HZ0.out).mono ?_
           rintro e w3 ⟨rfl, rfl⟩)))
      go_wp2
      go_ret
      exact ⟨rfl, HB2.out⟩
    case inl =>
      subst c1
      subst c2
      simp only [if_true] at s2 s3
      go_enter Tryd.func3, Tryd.ntmps3
      go_wp2_with (first
        | (go_at_call 9; refine (awake_any _ HT.out).mono ?_; rintro e w1 ⟨rfl, hd1⟩
           have kc := conv_sees (c := cap0) (hs0.below hd1 (Nat.le_refl _)) HL0.out)
        | (go_at_call 10; refine (refOf_any z0 _ (by rw [HL0.out]; omega) HZ0.out).mono ?_; rintro e w2 ⟨rfl, rfl⟩))
      clear kc
      have hA : ∀ W, Below w.heap.size w W → Tab W ∧ Sees W W.heap.size a0 (nums .u8 z0) ∧ Sees W W.heap.size a0 (nums .u8 x1) ∧ Sees W W.heap.size a0 (nums .u8 x2) ∧ Sees W W.heap.size a0 (nums .u8 x3) := fun W h =>
        ⟨HT.out.next h, (hs0.below h (Nat.le_refl _)).more h.size, (s1.below h (Nat.le_refl _)).more h.size, (s2.below h (Nat.le_refl _)).more h.size, (s3.below h (Nat.le_refl _)).more h.size⟩
      have HA := Lib.hid hA
      clear hA
      have hB1 : Below w.heap.size w (w1.alloc (.cells #[.slice a0 len0 cap0] 22)).drew := (hd1.alloc hd1.size _).drew
      have hW1 := HA.out _ hB1
      have hN1 : (w1.alloc (.cells #[.slice a0 len0 cap0] 22)).drew.heap[w1.heap.size]? = some (.cells #[.slice a0 len0 cap0] 22 (0, 0)) := heap_alloc_new w1 _
      have hB2 : Below w.heap.size w ((w1.alloc (.cells #[.slice a0 len0 cap0] 22)).alloc (.cells #[.slice a0 cap0 cap0, .slice a0 0 0, .slice none 0 0, .slice a0 0 0] 22)).drew :=
        ((hd1.alloc hd1.size _).alloc (by have := hd1.size; simp; omega) _).drew
      have hW2 := HA.out _ hB2
      have hN2 : ((w1.alloc (.cells #[.slice a0 len0 cap0] 22)).alloc (.cells #[.slice a0 cap0 cap0, .slice a0 0 0, .slice none 0 0, .slice a0 0 0] 22)).drew.heap[w1.heap.size + 1]? = some (.cells #[.slice a0 cap0 cap0, .slice a0 0 0, .slice none 0 0, .slice a0 0 0] 22 (0, 0)) := by
        have := heap_alloc_new (w1.alloc (.cells #[.slice a0 len0 cap0] 22)) (.cells #[.slice a0 cap0 cap0, .slice a0 0 0, .slice none 0 0, .slice a0 0 0] 22)
        rw [show (w1.alloc (.cells #[.slice a0 len0 cap0] 22)).heap.size = w1.heap.size + 1 by simp] at this
        exact this
      have HB2 := Lib.hid hB2
      have HW2 := Lib.hid hW2
      have HN2 := Lib.hid hN2
      have HB1 := Lib.hid hB1
      have HW1 := Lib.hid hW1
      have HN1 := Lib.hid hN1
      clear hB1 hW1 hN1 hB2 hW2 hN2
      go_region_held (fun W' => True) (first | trivial | go_keep) ((first
        | (go_at_call 11
           with_reducible refine (Of_g1 _ w1.heap.size a0 len0 cap0 z0 22 HN1.out HW1.out.1 HL0.out (by omega) hc0 HW1.out.2.1 HZ0.out).mono ?_
           rintro e w2 ⟨rfl, rfl⟩)
        | (go_at_call 11
           with_reducible refine (Of_g4 _ (w1.heap.size + 1) a0 a0 a0 cap0 0 0 cap0 0 0 x1 x2 x3 z0 22 HN2.out HW2.out.1 HL1.out (by rw [HL2.out]; omega) (by rw [HL3.out]; omega) n1 (by omega) (by omega) (by omega) (by omega) (by omega) HW2.out.2.2.1 HW2.out.2.2.2.1 HW2.out.2.2.2.2 HRO.out HZ0.out).mono ?_
           rintro e w3 ⟨rfl, rfl⟩)))
      go_wp2
      go_ret
      exact ⟨rfl, HB2.out⟩

end Go.Proofs.YtokmhbnlfkmffaaDoor.Walk
