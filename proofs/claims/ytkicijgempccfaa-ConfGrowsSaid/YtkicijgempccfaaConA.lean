/- Contracts of conf's smallest functions: within, times, bounded, sum. -/
import Derived.Test.YtkicijgempccfaaConP
import Derived.Test.YtkicijgempccfaaSatE0
import Derived.Test.YtkicijgempccfaaRatA
namespace Go.Proofs.Ytkicijgempccfaa.Con
open Go.RowKit Go.Proofs.Ytkicijgempccfaa.RatP Go.Proofs.Ytkicijgempccfaa.SatP Go.Proofs.Ytkicijgempccfaa.ConP Go.Proofs.Ytkicijgempccfaa.Rat
set_option linter.unusedVariables false

theorem wi_yes {n lo hi : Int} (h0 : lo ≤ n) (h1 : n ≤ hi) : wi n lo hi = true := wi_iff.2 ⟨h0, h1⟩
theorem within_any (n lo hi : Int) (w : World) : Calls Try.prog 39 #[.int .i64 n, .int .i64 lo, .int .i64 hi] w fun e w' => e = .returned (.bool (wi n lo hi)) ∧ w = w' := by
  by_cases h0 : lo ≤ n
  · by_cases h1 : n ≤ hi
    · have E := Lib.hid (wi_yes h0 h1)
      go_enter Try.func39, Try.ntmps39
      go_wp2
      go_ret
      exact ⟨by rw [E.out]; rfl, rfl⟩
    · have e : wi n lo hi = false := wi_no.2 (.inr (by omega))
      have E := Lib.hid e
      clear e
      have d1 : decide (n ≤ hi) = false := by simpa using h1
      clear h1
      go_enter Try.func39, Try.ntmps39
      go_wp2
      go_ret
      exact ⟨by rw [E.out]; rfl, rfl⟩
  · have e : wi n lo hi = false := wi_no.2 (.inl (by omega))
    have E := Lib.hid e
    clear e
    have d1 : decide (lo ≤ n) = false := by simpa using h0
    clear h0
    go_enter Try.func39, Try.ntmps39
    go_wp2
    go_ret
    exact ⟨by rw [E.out]; rfl, rfl⟩

theorem bk_any (n : Int) (w : World) : Calls Try.prog 36 #[.int .i64 n] w fun e w' => e = .returned (.int .i64 (bk n)) ∧ w = w' := by
  have m1 : ∀ W, (Builtin.min_ #[3, 3] 3 #[.int .i64 n, .int .i64 1000000]).run Try.prog W = .ok (.int .i64 (min n 1000000)) W := fun W => by
    rw [run_min_int2]; congr 2; split <;> omega
  have m2 : ∀ W, (Builtin.max_ #[3, 3] 3 #[.int .i64 0, .int .i64 (min n 1000000)]).run Try.prog W = .ok (.int .i64 (bk n)) W := fun W => by
    rw [run_max_int2, bk_max]; congr 2; split <;> omega
  generalize min n 1000000 = k at *
  generalize bk n = b at *
  go_enter Try.func36, Try.ntmps36
  go_wp2
  go_ret
  exact ⟨rfl, rfl⟩

theorem mulV_id {a b : Int} (ha : -1048576 ≤ a) (ha2 : a ≤ 1048576) (hb : 0 ≤ b) (hb2 : b ≤ 1048576) : mulV a b = a * b := by
  have h1 : -1048576 * 1048576 ≤ a * b := by
    rcases Int.lt_or_le a 0 with h | h
    · have h3 := Int.mul_le_mul_of_nonneg_right ha hb
      have h4 : -1048576 * 1048576 ≤ -1048576 * b := by omega
      omega
    · have := Int.mul_nonneg h hb; omega
  have h2 : a * b ≤ 1048576 * 1048576 := by
    have h3 := Int.mul_le_mul_of_nonneg_right ha2 hb
    omega
  unfold mulV
  rw [bnd_id (x := a) (by omega) (by omega), bnd_id (x := b) (by omega) (by omega), bnd_id (by omega) (by omega)]
theorem times_any (a b : Int) (ha : -1048576 ≤ a) (ha2 : a ≤ 1048576) (hb : 0 ≤ b) (hb2 : b ≤ 1048576) (w : World) : Calls Try.prog 35 #[.int .i64 a, .int .i64 b] w (Says w (.int .i64 (a * b))) := by
  have HM := Lib.hid (fun W => Sat.Mul_any a b W)
  rw [mulV_id ha ha2 hb hb2] at HM
  have e : ∃ x : Int, x = a * b := ⟨_, rfl⟩
  obtain ⟨x, hx⟩ := e
  rw [← hx] at HM ⊢
  clear hx ha ha2 hb hb2
  go_enter Try.func35, Try.ntmps35
  go_wp2_with (go_at_call 60; refine (HM.out _).mono ?_; rintro e w' ⟨rfl, hb⟩)
  go_ret
  exact ⟨rfl, hb⟩

theorem addV_id {a b : Int} (ha : -1073741824 ≤ a) (ha2 : a ≤ 1073741824) (hb : -1073741824 ≤ b) (hb2 : b ≤ 1073741824) : addV a b = a + b := by
  unfold addV
  rw [bnd_id (x := a) (by omega) (by omega), bnd_id (x := b) (by omega) (by omega), bnd_id (by omega) (by omega)]
/-- numbers that are summed: few, and not great -/
def Few (zs : List Int) : Prop := zs.length ≤ 16 ∧ ∀ x ∈ zs, -16777216 ≤ x ∧ x ≤ 16777216
theorem tot_few {zs : List Int} (h : ∀ x ∈ zs, -16777216 ≤ x ∧ x ≤ 16777216) : -16777216 * (zs.length : Int) ≤ tot zs ∧ tot zs ≤ 16777216 * (zs.length : Int) := by
  induction zs with
  | nil => simp [tot]
  | cons x l ih =>
    have h1 := ih (fun y hy => h y (List.mem_cons_of_mem _ hy))
    have h2 := h x (List.mem_cons_self ..)
    simp only [tot, List.foldr_cons, List.length_cons] at *
    omega
theorem few_take {zs : List Int} (h : Few zs) (k : Nat) : -268435456 ≤ tot (zs.take k) ∧ tot (zs.take k) ≤ 268435456 := by
  have h1 := tot_few (zs := zs.take k) (fun x hx => h.2 x (List.mem_of_mem_take hx))
  have h2 : (zs.take k).length ≤ 16 := Nat.le_trans (List.length_take_le' _ _) h.1
  omega
theorem tot_take_succ (zs : List Int) (k : Nat) (x : Int) (hk : zs[k]? = some x) : tot (zs.take (k + 1)) = tot (zs.take k) + x := by
  rw [List.take_add_one, hk, tot_append]; congr 1; exact tot_one x
theorem below_mono {a b c : World} (h : Below a.heap.size a b) (k : Below b.heap.size b c) : Below a.heap.size a c := h.trans (k.mono h.size)

set_option maxHeartbeats 800000 in
theorem sum_any (zs : List Int) (A : Option Addr) (len cap : Nat) (w : World) (hl : zs.length = len) (hf : Few zs) (hsee : Sees.Sees w w.heap.size A (Sees.nums .i64 zs)) :
    Calls Try.prog 31 #[.slice A len cap] w (Says w (.int .i64 (tot zs))) := by
  have h16 : len ≤ 16 := hl ▸ hf.1
  have HF := Lib.hid hf
  have HL := Lib.hid hl
  clear hl hf
  go_enter Try.func31, Try.ntmps31
  go_wp2
  go_loopw [3, 8] (fun s i wr => ∃ k : Nat, k ≤ len ∧ i = .int .i64 k ∧ s = .int .i64 (tot (zs.take k)) ∧ Below w.heap.size w wr) (fun _ i _ => len - (intOf i).toNat)
  case atStart => exact ⟨0, Nat.zero_le _, rfl, rfl, Below.refl _ _⟩
  case round =>
    obtain ⟨k, hk, rfl, rfl, hbl⟩ := hrel
    by_cases hlt : k < len
    · obtain ⟨b, o, rfl, hbB, hcell⟩ := hsee.at_ (Sees.nums_at .i64 zs k (by rw [HL.out]; exact hlt))
      have hx : zs[k]? = some (zs[k]?.getD 0) := by simp [show k < zs.length by rw [HL.out]; exact hlt]
      have hc' := (hbl.cell (p := ⟨b, o + k, none⟩) hbB).trans hcell
      have h1 := few_take HF.out k
      have h2 := HF.out.2 _ (List.mem_of_getElem? hx)
      have HT := Lib.hid (tot_take_succ zs k _ hx)
      generalize zs[k]?.getD 0 = x at *
      generalize tot (zs.take k) = s at *
      have HA := Lib.hid (fun W => Sat.Add_any s x W)
      rw [addV_id (by omega) (by omega) (by omega) (by omega)] at HA
      have ht := HT.out
      rw [← ht] at HA
      generalize hT : tot (zs.take (k + 1)) = t at *
      have HTT := Lib.hid hT
      clear hT ht HT hx hcell h1 h2
      have HB := Lib.hid hbl
      clear hbl
      go_wp2_with (go_at_call 55; refine (HA.out _).mono ?_; rintro e w' ⟨rfl, hb⟩)
      go_roundw
      case rel => exact ⟨k + 1, by omega, by go_num, by rw [HTT.out], below_mono HB.out hb⟩
      case measure => simp [intOf]; omega
    · obtain rfl : k = len := by omega
      have hT : zs.take k = zs := List.take_of_length_le (by rw [HL.out]; exact Nat.le_refl _)
      have HT := Lib.hid hT
      clear hT
      go_wp2
      go_ret
      exact ⟨ret_int (by rw [HT.out]), hbl⟩

end Go.Proofs.Ytkicijgempccfaa.Con
