/- The contract of octet.Get. -/
import Derived.Test.YtjedkkkhficmoaaDoorOctA
namespace Go.Proofs.YtjedkkkhficmoaaDoor.Oct
open Go.RowKit Go.Proofs.YtjedkkkhficmoaaDoor.Plain Go.Proofs.YtjedkkkhficmoaaDoor.Sees
set_option linter.unusedVariables false

theorem Get_arg (n : Int) (v : Value) (w : World) (h : n < 1 ∨ 8 < n) : Calls Tryd.prog 61 #[.int .i64 n, v] w fun e w' => e = .returned (.tuple #[.slice none 0 0, .int .i64 1]) ∧ w = w' := by
  go_enter Tryd.func61, Tryd.ntmps61
  go_wp2_with (go_at_call 53; refine (fits_no _ _ h).mono ?_; rintro e w' ⟨rfl, rfl⟩)
  go_ret2
  exact ⟨rfl, rfl⟩

theorem Get_short (size m c : Nat) (a : Option Addr) (w : World) (h1 : 1 ≤ size) (h8 : size ≤ 8) (hm : m ≤ maxLen) (hr : m % size ≠ 0) :
    Calls Tryd.prog 61 #[.int .i64 size, .slice a m c] w fun e w' => e = .returned (.tuple #[.slice none 0 0, .int .i64 10]) ∧ w = w' := by
  unfold maxLen at hm
  have hrem : ((m : Int) % (size : Int) != 0) = true := by simp; omega
  have hrem2 : ((m : Int) % (size : Int) == 0) = false := by simp; omega
  clear hr
  go_enter Tryd.func61, Tryd.ntmps61
  go_wp2_with (go_at_call 53; refine (fits_yes _ _ (by omega) (by omega)).mono ?_; rintro e w' ⟨rfl, rfl⟩)
  go_ret2
  exact ⟨rfl, rfl⟩

def NumsPost (w : World) (q : Nat) (xs : List Int) (e : Ending) (w' : World) : Prop :=
  ∃ v, e = .returned (.tuple #[v, .int .i64 0]) ∧ w'.ownsRow w.heap.size 59 1 v q (nums .u64 xs) ∧ Below w.heap.size w w'

set_option maxHeartbeats 800000 in
theorem Get_any (size q c : Nat) (a : Option Addr) (bs : List Int) (w : World) (h1 : 1 ≤ size) (h8 : size ≤ 8) (hlen : bs.length = size * q) (hq : q ≤ 1000000) (hc : size * q ≤ c)
    (hsee : Sees w w.heap.size a (nums .u8 bs)) (hb : ∀ b ∈ bs, 0 ≤ b ∧ b ≤ 255) :
    Calls Tryd.prog 61 #[.int .i64 size, .slice a (size * q) c] w (NumsPost w q (grp q size bs)) := by
  obtain ⟨i0, hi, hz0, hz1, hz2⟩ := info_parts info_u64
  have hmul : size * q ≤ 8 * 1000000 := Nat.mul_le_mul h8 hq
  have hdiv : size * q / size = q := Nat.mul_div_cancel_left q (by omega)
  have hmod : size * q % size = 0 := Nat.mul_mod_right size q
  generalize hm : size * q = m at *
  have hrem : ((m : Int) % (size : Int) != 0) = false := by simp; omega
  have hrem2 : ((m : Int) % (size : Int) == 0) = true := by simp; omega
  have hdi : wrap64 ((m : Int) / (size : Int)) = (q : Int) := by rw [show (m : Int) / (size : Int) = (q : Int) by rw [← hdiv]; simp]; unfold wrap64; omega
  have HM := Lib.hid hm
  have HD := Lib.hid hdi
  clear hdiv hmod hm hdi
  go_enter Tryd.func61, Tryd.ntmps61
  go_wp2_with (first
    | (go_at_call 53; refine (fits_yes _ _ (by omega) (by omega)).mono ?_; rintro e w' ⟨rfl, rfl⟩)
    | (at_make; go_loud (refine wpList_make_own _ rfl _ _ 89 rfl w.heap.size 59 i0 (.int .u64 0) 1 Tryd.underlying89 hi hz0 hz1 _ _ _ q rfl rfl HD.out (by rw [hz2]; omega) (by unfold maxLen; omega) (Nat.le_refl _) ?_); intro w0 hown0 hgrow0))
  have hb0 : Below w.heap.size w w0 := (Below.refl _ _).grown hgrow0 (Nat.le_refl _) (fun k h => by cases h)
  go_loopw [1, 6] (fun b l wr => ∃ (j n : Nat) (A : Option Addr) (C : Nat), j ≤ q ∧ n = m - size * j ∧ n ≤ C ∧ b = .slice A n C ∧ Sees w w.heap.size A (nums .u8 (bs.drop (size * j))) ∧
      wr.ownsRow w.heap.size 59 1 l j (nums .u64 (grp j size bs)) ∧ Below w.heap.size w wr)
    (fun b _ _ => match b with | .slice _ n _ => n | _ => 0)
  case atStart => exact ⟨0, m, a, c, Nat.zero_le _, by simp, hc, rfl, by simpa using hsee, by simpa [grp, nums] using hown0, hb0⟩
  case round =>
    obtain ⟨j, n, A, C, hj, hn, hnC, rfl, hs, hown, hbel⟩ := hrel
    have HN := Lib.hid hn
    clear hn
    have hsz := hbel.size
    by_cases hlt : j < q
    · have hn1 : size ≤ n := by
        have := HN.out; have := HM.out
        have h2 : size * (j + 1) ≤ size * q := Nat.mul_le_mul_left _ hlt
        rw [Nat.mul_succ] at h2
        omega
      have hn0 : 0 < n := by omega
      have hnm : n ≤ m := by have := HN.out; omega
      have hls : (bs.drop (size * j)).length = n := by rw [List.length_drop, hlen]; exact HN.out.symm
      have hlsv : (nums .u8 (bs.drop (size * j))).length = n := by rw [nums_length]; exact hls
      have hcut := sees_cut (c := C) hs size (by omega)
      have HL := Lib.hid hls
      clear hls hlsv
      generalize hbd : bs.drop (size * j) = l at *
      have HBD := Lib.hid hbd
      clear hbd
      have hlb : ∀ b ∈ l, 0 ≤ b ∧ b ≤ 255 := fun b hbl => hb b (by rw [← HBD.out] at hbl; exact List.mem_of_mem_drop hbl)
      by_cases hcs : size = C
      · subst hcs
        obtain rfl : size = n := by omega
        go_wp2_with (first
          | (go_at_call 59; ((with_reducible refine (get_any A size size size w.heap.size l _ h8 (Nat.le_refl _) HL.out (by unfold maxLen; omega) (hs.below hbel (Nat.le_refl _)) hlb).mono ?_); rintro e w' ⟨rfl, rfl⟩))
          | (at_builtin; refine wpList_append_own_at _ rfl (.tmp 23) (.tmp 27) 89 rfl w.heap.size 59 i0 (.int .u64 0) 1 8 Tryd.underlying89 hi hz0 hz1 hz2 rfl (by omega) u6 j _ rfl (hown.alloc _) ⟨wr.heap.size, 0, none⟩ 1 1 [.int .u64 (ofB (l.take size))] rfl rfl (new_cell _ _ _) (one_cell _ _) (by unfold maxLen; omega) (by omega) (by simp; omega) ?_; intro v1 w1 hown1 hg1 _ hat1))
        go_roundw
        case rel =>
          have hl1 : l = bs.drop (size * j) := HBD.out.symm
          have hn2 := HN.out
          have hms : size * (j + 1) = size * j + size := Nat.mul_succ _ _
          refine ⟨j + 1, 0, A, 0, by omega, by omega, ?_, rfl, ?_, ?_, (hbel.alloc (by omega) _).grown hg1 (by simp; omega) (fun g hg => (hown.lt g hg).1)⟩
          · first | omega | exact Nat.zero_le _
          · rw [hms, ← List.drop_drop, ← hl1]
            simpa [nums, List.map_drop] using hcut
          · rw [grp_snoc, ← hl1, nums_append]
            exact hown1
        case measure => simp; omega
      · have hcs' : ¬ C = size := fun h => hcs h.symm
        simp only [if_neg hcs'] at hcut
        go_wp2_with (first
          | (go_at_call 59; ((with_reducible refine (get_any A n C size w.heap.size l _ h8 hn1 HL.out (by unfold maxLen; omega) (hs.below hbel (Nat.le_refl _)) hlb).mono ?_); rintro e w' ⟨rfl, rfl⟩))
          | (at_builtin; refine wpList_append_own_at _ rfl (.tmp 23) (.tmp 27) 89 rfl w.heap.size 59 i0 (.int .u64 0) 1 8 Tryd.underlying89 hi hz0 hz1 hz2 rfl (by omega) u6 j _ rfl (hown.alloc _) ⟨wr.heap.size, 0, none⟩ 1 1 [.int .u64 (ofB (l.take size))] rfl rfl (new_cell _ _ _) (one_cell _ _) (by unfold maxLen; omega) (by omega) (by simp; omega) ?_; intro v1 w1 hown1 hg1 _ hat1))
        go_roundw
        case rel =>
          have hl1 : l = bs.drop (size * j) := HBD.out.symm
          have hn2 := HN.out
          have hms : size * (j + 1) = size * j + size := Nat.mul_succ _ _
          refine ⟨j + 1, n - size, _, _, by omega, by omega, ?_, rfl, ?_, ?_, (hbel.alloc (by omega) _).grown hg1 (by simp; omega) (fun g hg => (hown.lt g hg).1)⟩
          · first | omega | exact Nat.zero_le _
          · rw [hms, ← List.drop_drop, ← hl1]
            simpa [nums, List.map_drop] using hcut
          · rw [grp_snoc, ← hl1, nums_append]
            exact hown1
        case measure => simp; omega
    · obtain rfl : j = q := by omega
      have hn0 : n = 0 := by have := HN.out; have := HM.out; omega
      subst hn0
      go_wp2
      go_ret2
      exact ⟨_, rfl, hown, hbel⟩

end Go.Proofs.YtjedkkkhficmoaaDoor.Oct
