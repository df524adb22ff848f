/- The document's examples of crc: the contract of awake. The reference of layer 2. -/
import Derived.Test.YtokmhbnlfkmffaaDoorCrcB
import Derived.Test.YtokmhbnlfkmffaaDoorNum
namespace Go.Proofs.YtokmhbnlfkmffaaDoor.Crc
open Go.RowKit Go.Proofs.YtokmhbnlfkmffaaDoor.Plain Go.Proofs.YtokmhbnlfkmffaaDoor.Sees Go.Proofs.YtokmhbnlfkmffaaDoor.Oct
set_option linter.unusedVariables false

theorem crc_ex : crc [49, 50, 51, 52, 53, 54, 55, 56, 57] = 3421780262 := by decide +kernel

theorem Seal_lit (g : Nat) (w : World) (ht : Tab w) (hg : g < w.heap.size) (h0 : w.cell? ⟨g, 0, none⟩ = some (.int .u8 97)) (h1 : w.cell? ⟨g, 1, none⟩ = some (.int .u8 98)) :
    Calls Tryd.prog 14 #[.slice (some ⟨g, 0, none⟩) 2 2] w (OwnPost w 6 ([97, 98] ++ lowB 4 (crc [97, 98] : Nat))) :=
  Seal_any (some ⟨g, 0, none⟩) 2 2 [97, 98] w rfl (by omega) (by omega) ht
    (.inr ⟨g, 0, rfl, hg, fun j u hu => by
      match j, hu with
      | 0, hu => simp [nums] at hu; subst hu; exact h0
      | 1, hu => simp [nums] at hu; subst hu; exact h1⟩) (by simp)

theorem Open_lit (A : Option Addr) (c : Nat) (w : World) (ht : Tab w) (hc : 6 ≤ c) (h : Sees w w.heap.size A (nums .u8 ([97, 98] ++ lowB 4 (crc [97, 98] : Nat)))) :
    Calls Tryd.prog 12 #[.slice A 6 c] w fun e w' => ∃ A' c', e = .returned (.tuple #[.slice A' 2 c', .bool true]) ∧ Sees w' w'.heap.size A' (nums .u8 [97, 98]) ∧ Below w.heap.size w w' := by
  refine (Open_yes A 2 c [97, 98] w rfl (by omega) hc ht h (by simp)).mono ?_
  rintro e w' ⟨v, rfl, ho, hb⟩
  obtain ⟨A', c', rfl, _, hs, _⟩ := own_form ho
  exact ⟨A', c', rfl, hs, hb⟩

theorem sees_lit (w : World) (t : TypeId) (g : Nat) (l : List Int) (fr : Nat × Nat) (hg : g < w.heap.size) (h : w.heap[g]? = some (.cells (nums .u8 l).toArray t fr)) : Sees w w.heap.size (some ⟨g, 0, none⟩) (nums .u8 l) := by
  refine .inr ⟨g, 0, rfl, hg, fun j u hu => ?_⟩
  rw [Nat.zero_add, cell_of_row w g j (nums .u8 l).toArray t fr h]
  simpa using hu

theorem Of_lit (w : World) (t : TypeId) (ht : Tab w) :
    Calls Tryd.prog 11 #[.slice (some ⟨w.heap.size + 1, 0, none⟩) 1 1] ((w.alloc (.cells (nums .u8 [49, 50, 51, 52, 53, 54, 55, 56, 57]).toArray 5 (9, 10))).alloc (.cells #[.slice (some ⟨w.heap.size, 0, none⟩) 9 9] t))
      fun e w' => e = .returned (.int .u32 3421780262) ∧ (w.alloc (.cells (nums .u8 [49, 50, 51, 52, 53, 54, 55, 56, 57]).toArray 5 (9, 10))).alloc (.cells #[.slice (some ⟨w.heap.size, 0, none⟩) 9 9] t) = w' := by
  have hb1 := (Below.refl w.heap.size w).alloc (Nat.le_refl _) (.cells (nums .u8 [49, 50, 51, 52, 53, 54, 55, 56, 57]).toArray 5 (9, 10))
  have hs := sees_lit (w.alloc (.cells (nums .u8 [49, 50, 51, 52, 53, 54, 55, 56, 57]).toArray 5 (9, 10))) 5 w.heap.size [49, 50, 51, 52, 53, 54, 55, 56, 57] (9, 10) (by simp) (heap_alloc_new _ _)
  generalize hW : w.alloc (.cells (nums .u8 [49, 50, 51, 52, 53, 54, 55, 56, 57]).toArray 5 (9, 10)) = W at *
  have hsz : W.heap.size = w.heap.size + 1 := by rw [← hW]; simp
  have hb2 := (Below.refl W.heap.size W).alloc (Nat.le_refl _) (.cells #[.slice (some ⟨w.heap.size, 0, none⟩) 9 9] t)
  have := Of_one (w.heap.size + 1) ⟨some ⟨w.heap.size, 0, none⟩, 9, [49, 50, 51, 52, 53, 54, 55, 56, 57]⟩ (W.alloc (.cells #[.slice (some ⟨w.heap.size, 0, none⟩) 9 9] t))
    ((ht.next hb1).next hb2) (by simp) (by simp; omega) (by rw [← hsz, cell_of_row _ W.heap.size 0 _ t (0, 0) (heap_alloc_new _ _)]; rfl)
    ⟨by simp, (hs.below hb2 (Nat.le_refl _)).more hb2.size, by simp⟩
  rwa [show ((crc [49, 50, 51, 52, 53, 54, 55, 56, 57] : Nat) : Int) = 3421780262 by rw [crc_ex]; rfl] at this

set_option maxHeartbeats 1600000 in
theorem awake_any (w : World) (ht : Tab w) : Calls Tryd.prog 9 #[] w fun e w' => e = .returned (.bool true) ∧ Below w.heap.size w w' := by
  have kc := fun (w : World) (C : Array Value) (n c : Nat) => Lib.run_convert_bytes_const (P := Tryd.prog) w 22 5 C n c Tryd.underlying22 Tryd.underlying5
  have HT := Lib.hid ht
  clear ht
  go_enter Tryd.func9, Tryd.ntmps9
  go_wp2_with fail
  refine (Seal_lit _ _ ?_ ?_ ?_ ?_).mono ?_
  case refine_1 => exact HT.out.next ((Below.refl _ _).alloc (Nat.le_refl _) _)
  case refine_2 => simp
  case refine_3 => (rw [cell_of_row _ _ 0 _ 5 (2, 3) (heap_alloc_new _ _)]; rfl)
  case refine_4 => (rw [cell_of_row _ _ 1 _ 5 (2, 3) (heap_alloc_new _ _)]; rfl)
  rintro e w1 ⟨v1, rfl, ho1, hb1⟩
  obtain ⟨A1, C1, rfl, hC1, hs1, hlt1⟩ := own_form ho1
  have hd1 : Below w.heap.size w w1 := ((Below.refl _ _).alloc (Nat.le_refl _) _).trans (hb1.mono (by simp))
  go_wp2_with (go_at_call 12; refine (Open_lit _ _ _ (HT.out.next hd1) hC1 hs1).mono ?_; rintro e w2 ⟨A2, C2, rfl, hs2, hb2⟩)
  have hd2 : Below w.heap.size w w2 := hd1.trans (hb2.mono hd1.size)
  have ht2 := HT.out.next hd2
  go_wp2_with (go_at_call 11
               refine (Of_lit w2 22 ht2).mono ?_
               rintro e w3 ⟨rfl, hw3⟩
               have hd3 : Below w.heap.size w w3 := by rw [← hw3]; exact (hd2.alloc hd2.size _).alloc (by have := hd2.size; simp; omega) _
               have kf := conv_sees (c := C2) (hs2.below (w' := w3) (by rw [← hw3]; exact ((Below.refl _ _).alloc (Nat.le_refl _) _).alloc (by simp) _) (Nat.le_refl _)) (n := 2) rfl
               rw [show strOfNums [97, 98] = ⟨#[97, 98]⟩ from rfl] at kf
               clear hw3)
  go_ret
  exact ⟨rfl, hd3⟩

/-- The reference's sum. -/
theorem step1 (x : Nat) (h : x < 4294967296) : (x % 2 = 1 ∧ bits .xor .u32 ((x : Int) / 2) 3988292384 = (zs x : Int)) ∨ (x % 2 = 0 ∧ (x : Int) / 2 = (zs x : Int)) := by
  rcases Nat.mod_two_eq_zero_or_one x with hx | hx
  · right
    refine ⟨hx, ?_⟩
    unfold zs
    rw [if_neg (by omega)]
    simp
  · left
    refine ⟨hx, ?_⟩
    have := xor_u32 (x / 2) 3988292384 (by omega) (by decide)
    unfold zs
    rw [if_pos hx, ← this]
    rfl

set_option maxHeartbeats 1600000 in
theorem refOf_any (bs : List Int) (w : World) (hlen : bs.length ≤ 1000000) (hb : ∀ b ∈ bs, 0 ≤ b ∧ b ≤ 255) :
    Calls Tryd.prog 10 #[.string (strOfNums bs)] w fun e w' => e = .returned (.int .u32 (crc bs : Nat)) ∧ w = w' := by
  have hsz : (strOfNums bs).size = bs.length := strOfNums_size bs
  have hidx := fun (i : Nat) (h : i < bs.length) => run_str_index w bs i h hb
  have HI := Lib.hid hidx
  clear hidx
  generalize strOfNums bs = s at *
  generalize hm : bs.length = m at *
  have HM := Lib.hid hm
  clear hm
  go_enter Tryd.func10, Tryd.ntmps10
  go_wp2
  go_loop [3, 4] (fun x i => ∃ k : Nat, k ≤ m ∧ i = .int .i64 k ∧ x = .int .u32 (upd 4294967295 (bs.take k) : Nat)) (fun _ i => m - (intOf i).toNat)
  case atStart => exact ⟨0, Nat.zero_le _, rfl, rfl⟩
  case round =>
    obtain ⟨k, hk, rfl, rfl⟩ := hrel
    have hu := upd_lt (bs.take k) 4294967295 (by decide) (fun c hc => hb c (List.mem_of_mem_take hc))
    by_cases hlt : k < m
    · have hk' : k < bs.length := by rw [HM.out]; exact hlt
      have hby := hb _ (get_mem bs k hk' 0)
      have HT := Lib.hid (take_snoc bs k hk' 0)
      have hi := HI.out k hlt
      generalize hx : bs[k]?.getD 0 = x at *
      have HX := Lib.hid hx
      obtain ⟨y, rfl⟩ := Int.eq_ofNat_of_zero_le hby.1
      generalize hU : upd 4294967295 (bs.take k) = u at *
      have HU := Lib.hid hU
      have hy : y < 256 := by omega
      obtain ⟨v, hv⟩ : ∃ v, u ^^^ y = v := ⟨_, rfl⟩
      have hv1 : v < 4294967296 := by rw [← hv]; exact xor_lt32 u y hu (by omega)
      have E1 := xor_u32 u y hu (by omega)
      rw [hv] at E1
      have HV := Lib.hid hv
      clear hx hU hv
      go_wp2
      go_loop [3, 5] (fun x j => ∃ q : Nat, q ≤ 8 ∧ j = .int .i64 q ∧ x = .int .u32 (zn q v : Nat)) (fun _ j => 8 - (intOf j).toNat)
      case atStart => exact ⟨0, Nat.zero_le _, rfl, rfl⟩
      case round =>
        obtain ⟨q, hq, rfl, rfl⟩ := hrel
        have hz := zn_lt q v hv1
        by_cases hq8 : q < 8
        · have HZ := Lib.hid (zn_out q v)
          generalize zn q v = z at *
          have hst := step1 z hz
          have hz2 := zs_lt z hz
          generalize zs z = z2 at *
          rcases hst with ⟨hodd, hst⟩ | ⟨hodd, hst⟩
          · have o1 : ((z : Int) % 2 == 1) = true := by rw [beq_iff_eq]; omega
            clear hodd
            go_wp2
            go_round
            case rel => exact ⟨q + 1, by omega, by go_num, by rw [HZ.out]⟩
            case measure => simp [intOf]; omega
          · have o1 : ((z : Int) % 2 == 1) = false := by rw [beq_eq_false_iff_ne]; omega
            clear hodd
            go_wp2
            go_round
            case rel => exact ⟨q + 1, by omega, by go_num, by rw [HZ.out]⟩
            case measure => simp [intOf]; omega
        · obtain rfl : q = 8 := by omega
          go_wp2
          go_round
          case rel => exact ⟨k + 1, by omega, by go_num, by rw [HT.out, upd_snoc, HU.out]; unfold byte1; rw [Int.toNat_natCast, HV.out]⟩
          case measure => simp [intOf]; omega
    · obtain rfl : k = m := by omega
      have hE : bs.take k = bs := List.take_of_length_le (by rw [HM.out]; exact Nat.le_refl _)
      rw [hE] at hu ⊢
      clear hE
      go_wp2
      go_ret
      exact ⟨congrArg (fun n => Ending.returned (.int .u32 n)) (by unfold crc; omega), rfl⟩

end Go.Proofs.YtokmhbnlfkmffaaDoor.Crc
