/- Walks of OctetPuts, OctetLow, OctetParts. -/
import Derived.Test.YtlgondcdfoghpaaOctF
import Derived.OpenShut
namespace Go.Proofs.Ytlgondcdfoghpaa.Walk
open Go.RowKit Go.Proofs.Ytlgondcdfoghpaa.Plain Go.Proofs.Ytlgondcdfoghpaa.Sees Go.Proofs.Ytlgondcdfoghpaa.Oct
set_option linter.unusedVariables false

/-- What Put gives, whatever the size: n is the size, or 0 where it may not be. -/
def PutSees (w : World) (m : Nat) (cs : List Int) (e : Ending) (w' : World) : Prop :=
  ∃ A c, e = .returned (.slice A m c) ∧ m ≤ c ∧ Sees w' w'.heap.size A (nums .u8 cs) ∧ Below w.heap.size w w'

theorem allB_zero (l : List Int) : allB 0 l = [] := by
  induction l with
  | nil => rfl
  | cons x l ih => simp [allB, lowB]

theorem put_num_all (a0 : Int) (len cap : Nat) (a : Option Addr) (z : List Int) (hl : z.length = len) (hlen : len ≤ 100) (hz : ∀ x ∈ z, 0 ≤ x ∧ x ≤ 18446744073709551615) :
    ∃ n : Nat, n ≤ 8 ∧ (∀ w x, 0 ≤ x → x ≤ 18446744073709551615 → Calls Try.prog 13 #[.int .i64 a0, .int .u64 x] w (StrPost w (lowB n x))) ∧
      ∀ w, Sees w w.heap.size a (nums .u64 z) → Calls Try.prog 14 #[.int .i64 a0, .slice a len cap] w (PutSees w (n * len) (allB n z)) := by
  by_cases h : a0 < 1 ∨ 8 < a0
  · refine ⟨0, by omega, fun w x h0 h1 => num_none a0 x w h h0 h1, fun w hs => (Put_no a0 _ w h).mono ?_⟩
    rintro e w' ⟨rfl, rfl⟩
    exact ⟨none, 0, by simp, by simp, by rw [allB_zero]; exact .inl rfl, Below.refl _ _⟩
  · obtain ⟨n, rfl⟩ := Int.eq_ofNat_of_zero_le (show 0 ≤ a0 by omega)
    refine ⟨n, by omega, fun w x h0 h1 => num_any n x w (by omega) h0 h1, fun w hs => (Put_any n len cap a z w (by omega) (by omega) hl (by omega) hs hz).mono ?_⟩
    rintro e w' ⟨v, rfl, ho, hb⟩
    obtain ⟨A, c, rfl, hcap, hs', _⟩ := own_form ho
    exact ⟨A, c, rfl, hcap, hs', hb⟩

set_option maxHeartbeats 1600000 in
theorem octetPuts_walk (w : World) (a0 : Int) (a1 : Option Addr) (len1 cap1 : Nat) (z1 : List Int) (w0 : (Lit.int .i64 a0).wf = true)
    (hl1 : z1.length = len1) (hc1 : len1 ≤ cap1) (hx1 : cap1 ≤ maxLen) (hs1 : Sees w w.heap.size a1 (nums .u64 z1)) (hw1 : ∀ n ∈ z1, (Lit.int .u64 n).wf = true) :
    Calls Try.prog 3 #[.int .i64 a0, .slice a1 len1 cap1] w fun e w' => e = .returned (.bool true) ∧ Below w.heap.size w w' := by
  unfold maxLen at hx1
  have hb0 := bounds_i64 w0
  have HL1 := Lib.hid hl1
  have HZ := Lib.hid (fun x hx => bounds_u64 (hw1 x hx) : ∀ x ∈ z1, 0 ≤ x ∧ x ≤ 18446744073709551615)
  clear hl1 hw1 w0
  by_cases hbig : 100 < len1
  · go_enter Try.func3, Try.ntmps3
    go_wp2_with (go_at_call 12; refine (awake_any _).mono ?_; rintro e w1 ⟨rfl, hd1⟩)
    go_ret
    exact ⟨rfl, hd1⟩
  · obtain ⟨n, hn8, hnum, hput⟩ := put_num_all a0 len1 cap1 a1 z1 HL1.out (by omega) HZ.out
    have HN := Lib.hid hnum
    have HP := Lib.hid hput
    clear hnum hput
    go_enter Try.func3, Try.ntmps3
    go_wp2_with (go_at_call 12; refine (awake_any _).mono ?_; rintro e w1 ⟨rfl, hd1⟩)
    go_loopw [6, 7] (fun s i wr => ∃ k : Nat, k ≤ len1 ∧ i = .int .i64 k ∧ s = .string (strOfNums (allB n (z1.take k))) ∧ Below w.heap.size w wr)
      (fun _ i _ => len1 - (intOf i).toNat)
    case atStart => exact ⟨0, Nat.zero_le _, rfl, rfl, hd1⟩
    case round =>
      obtain ⟨k, hk, rfl, rfl, hbel⟩ := hrel
      have hsz := hbel.size
      by_cases hlt : k < len1
      · obtain ⟨b, o, rfl, hbB, hc⟩ := hs1.at_ (nums_at .u64 z1 k (by have := HL1.out; omega))
        have hx := HZ.out _ (get_mem z1 k (by have := HL1.out; omega) 0)
        have hc' := (bcell hbel b (o + k) hbB).trans hc
        have hts := take_snoc z1 k (by have := HL1.out; omega) 0
        generalize z1[k]?.getD 0 = x at hc' hx hts
        have hadd : ∀ W, (Op.stringOp .add (strOfNums (allB n (z1.take k))) (strOfNums (lowB n x))).run Try.prog W = .ok (.string (strOfNums (allB n (z1.take (k + 1))))) W := fun W => by
          have h1 : n * (z1.take k).length ≤ 8 * 100 := Nat.mul_le_mul hn8 (by simp; omega)
          rw [run_str_add W _ _ (by rw [lowB_length, allB_length]; omega), hts, allB_snoc]
        have HT := Lib.hid hts
        have HC := Lib.hid hc
        clear hts hc
        go_wp2_with (go_at_call 13; go_loud (refine (HN.out _ x hx.1 hx.2).mono ?_); rintro e w2 ⟨rfl, hd2⟩)
        go_roundw
        case rel => exact ⟨k + 1, by omega, by go_num, rfl, hbel.trans (hd2.mono hsz)⟩
        case measure => simp [intOf]; omega
      · obtain rfl : len1 = k := by omega
        have ht : z1.take len1 = z1 := List.take_of_length_le (by have := HL1.out; omega)
        rw [ht]
        have HT := Lib.hid ht
        clear ht
        go_wp2_with (go_at_call 14
                     go_loud (refine (HP.out _ ((hs1.below hbel (Nat.le_refl _)).more hsz)).mono ?_)
                     rintro e w2 ⟨A, c, rfl, _, hs2, hd2⟩
                     have kc := conv_sees (c := c) hs2 (by rw [allB_length, HL1.out] : (allB n z1).length = n * len1))
        go_ret
        exact ⟨rfl, hbel.trans (hd2.mono hsz)⟩

theorem Put_one (n g : Nat) (x : Int) (w : World) (h1 : 1 ≤ n) (h8 : n ≤ 8) (hg : g < w.heap.size) (hx : 0 ≤ x ∧ x ≤ 18446744073709551615) (hc : w.cell? ⟨g, 0, none⟩ = some (.int .u64 x)) :
    Calls Try.prog 14 #[.int .i64 n, .slice (some ⟨g, 0, none⟩) 1 1] w (PutSees w n (lowB n x)) := by
  refine (Put_any n 1 1 (some ⟨g, 0, none⟩) [x] w h1 h8 rfl (by omega) (.inr ⟨g, 0, rfl, hg, fun j u hu => ?_⟩) ?_).mono ?_
  · match j, hu with
    | 0, hu => simp [nums] at hu; subst hu; exact hc
  · intro y hy
    simp at hy
    subst hy
    exact hx
  · rintro e w' ⟨v, rfl, ho, hb⟩
    obtain ⟨A, c, rfl, hcap, hs', _⟩ := own_form ho
    refine ⟨A, c, by simp, by omega, ?_, hb⟩
    simpa [allB] using hs'

def GetOne (w : World) (v : Int) (e : Ending) (w' : World) : Prop :=
  ∃ b o c, e = .returned (.tuple #[.slice (some ⟨b, o, none⟩) 1 c, .int .i64 0]) ∧ w'.cell? ⟨b, o, none⟩ = some (.int .u64 v) ∧ Below w.heap.size w w'

theorem Get_one (n c : Nat) (A : Option Addr) (bs : List Int) (w : World) (h1 : 1 ≤ n) (h8 : n ≤ 8) (hl : bs.length = n) (hc : n ≤ c) (hb : ∀ b ∈ bs, 0 ≤ b ∧ b ≤ 255) (hs : Sees w w.heap.size A (nums .u8 bs)) :
    Calls Try.prog 15 #[.int .i64 n, .slice A n c] w (GetOne w (ofB bs)) := by
  have h := Get_any n 1 c A bs w h1 h8 (by omega) (by omega) (by omega) hs hb
  rw [Nat.mul_one] at h
  refine h.mono ?_
  rintro e w' ⟨v, rfl, ho, hb⟩
  obtain ⟨A, c, rfl, hcap, hs', _⟩ := own_form ho
  have e1 : grp 1 n bs = [ofB bs] := by simp [grp, List.take_of_length_le (Nat.le_of_eq hl)]
  rw [e1] at hs'
  obtain ⟨b, o, rfl, _, hcell⟩ := hs'.at_ (k := 0) (u := .int .u64 (ofB bs)) rfl
  exact ⟨b, o, c, rfl, hcell, hb⟩

set_option maxHeartbeats 1600000 in
theorem octetLow_walk (w : World) (a0 a1 : Int) (w0 : (Lit.int .u8 a0).wf = true) (w1 : (Lit.int .u64 a1).wf = true) :
    Calls Try.prog 11 #[.int .u8 a0, .int .u64 a1] w fun e w' => e = .returned (.bool true) ∧ Below w.heap.size w w' := by
  have hb0 := bounds_u8 w0
  have hb1 := bounds_u64 w1
  clear w0 w1
  obtain ⟨n, hn, hn1, hn7⟩ : ∃ n : Nat, a0 % 7 + 1 = (n : Int) ∧ 1 ≤ n ∧ n ≤ 7 := ⟨(a0 % 7 + 1).toNat, by omega, by omega, by omega⟩
  have hm0 : 0 ≤ a0 % 7 := by omega
  have hm6 : a0 % 7 ≤ 6 := by omega
  go_enter Try.func11, Try.ntmps11
  go_wp2_with (first
    | (go_at_call 12; refine (awake_any _).mono ?_; rintro e w1 ⟨rfl, hd1⟩)
    | (go_at_call 14; go_loud (refine (Put_one n _ a1 _ hn1 (by omega) (by simp) hb1 (by go_cell)).mono ?_); rintro e w2 ⟨A2, C2, rfl, hC2, hs2, hd2⟩)
    | (go_at_call 15; go_loud (refine (Get_one n C2 A2 (lowB n a1) _ hn1 (by omega) (lowB_length _ _) hC2 (lowB_mem _ _) hs2).mono ?_); rintro e w3 ⟨b3, o3, C3, rfl, hc3, hd3⟩))
  have hd : Below w.heap.size w w3 := ((hd1.alloc hd1.size _).trans (hd2.mono (by have := hd1.size; simp; omega))).trans (hd3.mono (by have h1 := hd1.size; have h2 := hd2.size; simp at h2; omega))
  rw [ofB_low] at hc3
  go_loop [9, 10] (fun y i => ∃ k : Nat, n ≤ k ∧ k ≤ 8 ∧ i = .int .i64 k ∧ y = .int .u64 (a1 * 256 ^ (k - n) % 18446744073709551616)) (fun _ i => 8 - (intOf i).toNat)
  case atStart => exact ⟨n, Nat.le_refl _, by omega, rfl, by simp; omega⟩
  case round =>
    obtain ⟨k, hk, hk8, rfl, rfl⟩ := hrel
    have hy : 0 ≤ a1 * 256 ^ (k - n) % 18446744073709551616 ∧ a1 * 256 ^ (k - n) % 18446744073709551616 ≤ 18446744073709551615 := by omega
    by_cases hlt : k < 8
    · have hyn : a1 * 256 ^ (k - n) % 18446744073709551616 * 256 % 18446744073709551616 = a1 * 256 ^ (k + 1 - n) % 18446744073709551616 := by
        rw [show k + 1 - n = (k - n) + 1 by omega, Int.pow_succ, ← Int.mul_assoc, Int.mul_emod (a1 * 256 ^ (k - n)) 256, Int.mul_emod (a1 * 256 ^ (k - n) % 18446744073709551616) 256, Int.emod_emod]
      have HY := Lib.hid hyn
      clear hyn
      generalize a1 * 256 ^ (k - n) % 18446744073709551616 = y at *
      go_wp2
      go_round
      case rel => exact ⟨k + 1, by omega, by omega, by go_num, by rw [← HY.out, IntKind.wrap_u64]⟩
      case measure => simp [intOf]; omega
    · obtain rfl : k = 8 := by omega
      have hfin := shift_back a1 n (8 - n) (by omega)
      generalize a1 * 256 ^ (8 - n) % 18446744073709551616 = y8 at *
      generalize a1 % 256 ^ n = v at hc3 hfin
      have HF := Lib.hid hfin
      clear hfin
      go_wp2
      go_loop [9, 11] (fun y i => ∃ k : Nat, n ≤ k ∧ k ≤ 8 ∧ i = .int .i64 k ∧ y = .int .u64 (y8 / 256 ^ (k - n))) (fun _ i => 8 - (intOf i).toNat)
      case atStart => exact ⟨n, Nat.le_refl _, by omega, rfl, by simp⟩
      case round =>
        obtain ⟨k, hk, hk8, rfl, rfl⟩ := hrel
        have hz0 : 0 ≤ y8 / 256 ^ (k - n) := Int.ediv_nonneg hy.1 (Int.le_of_lt (Int.pow_pos (by decide)))
        have hz1 : y8 / 256 ^ (k - n) ≤ 18446744073709551615 := Int.le_trans (Int.ediv_le_self _ hy.1) hy.2
        by_cases hlt : k < 8
        · have hyn : y8 / 256 ^ (k - n) / 256 = y8 / 256 ^ (k + 1 - n) := by
            rw [Int.ediv_ediv_of_nonneg (Int.le_of_lt (Int.pow_pos (by decide))), show k + 1 - n = (k - n) + 1 by omega, Int.pow_succ]
          have HY := Lib.hid hyn
          clear hyn
          generalize y8 / 256 ^ (k - n) = z at *
          go_wp2
          go_round
          case rel => exact ⟨k + 1, by omega, by omega, by go_num, by rw [← HY.out]⟩
          case measure => simp [intOf]; omega
        · obtain rfl : k = 8 := by omega
          have heq : (v == y8 / 256 ^ (8 - n)) = true := by rw [HF.out]; simp
          generalize y8 / 256 ^ (8 - n) = z at *
          go_wp2
          go_ret
          exact ⟨rfl, hd⟩

end Go.Proofs.Ytlgondcdfoghpaa.Walk
