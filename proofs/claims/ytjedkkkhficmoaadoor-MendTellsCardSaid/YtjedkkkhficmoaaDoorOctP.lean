/- Contracts of octet.fits, octet.put, octet.Put. -/
import Derived.Test.YtjedkkkhficmoaaDoorRows
import Derived.Test.YtjedkkkhficmoaaDoorSees
import Derived.WalkKit
import Derived.ProofKit
namespace Go.Proofs.YtjedkkkhficmoaaDoor.Oct
open Go.RowKit Go.Proofs.YtjedkkkhficmoaaDoor.Plain Go.Proofs.YtjedkkkhficmoaaDoor.Sees
set_option linter.unusedVariables false

theorem info_u8 : (Tryd.prog.info? 5).map (fun i => (i.zero, i.size, i.bytes)) = some (some (.int .u8 0), 1, 1) := by kernel_rfl

theorem fits_yes (n : Int) (w : World) (h1 : 1 ≤ n) (h2 : n ≤ 8) : Calls Tryd.prog 53 #[.int .i64 n] w fun e w' => e = .returned (.bool true) ∧ w = w' := by
  go_enter Tryd.func53, Tryd.ntmps53
  go_wp2
  go_ret
  exact ⟨rfl, rfl⟩
theorem fits_no (n : Int) (w : World) (h : n < 1 ∨ 8 < n) : Calls Tryd.prog 53 #[.int .i64 n] w fun e w' => e = .returned (.bool false) ∧ w = w' := by
  rcases h with h | h
  · have h1 : ¬ 1 ≤ n := by omega
    go_enter Tryd.func53, Tryd.ntmps53
    go_wp2
    go_ret
    exact ⟨rfl, rfl⟩
  · have h1 : 1 ≤ n := by omega
    have h2 : ¬ n ≤ 8 := by omega
    go_enter Tryd.func53, Tryd.ntmps53
    go_wp2
    go_ret
    exact ⟨rfl, rfl⟩

def PutPost (base : Nat) (w : World) (v : Value) (m : Nat) (cs : List Int) (e : Ending) (w' : World) : Prop :=
  ∃ v', e = .returned v' ∧ w'.ownsRow base 5 1 v' m (nums .u8 cs) ∧ Grew w w' v v'

set_option maxHeartbeats 400000 in
theorem put_any (v : Value) (n size : Nat) (x : Int) (xs : List Int) (base : Nat) (w : World) (hs : size ≤ 8) (hx0 : 0 ≤ x) (hx1 : x ≤ 18446744073709551615)
    (hown : w.ownsRow base 5 1 v n (nums .u8 xs)) (hbase : base ≤ w.heap.size) (hn : n ≤ 100000000) :
    Calls Tryd.prog 54 #[v, .int .i64 size, .int .u64 x] w (PutPost base w v (n + size) (xs ++ lowB size x)) := by
  obtain ⟨i0, hi, hz0, hz1, hz2⟩ := info_parts info_u8
  go_enter Tryd.func54, Tryd.ntmps54
  go_wp2
  go_loopw [0, 9] (fun b i wr => ∃ k : Nat, k ≤ size ∧ i = .int .i64 k ∧ wr.ownsRow base 5 1 b (n + k) (nums .u8 (xs ++ lowB k x)) ∧ Grew w wr v b)
    (fun _ i _ => size - (intOf i).toNat)
  case atStart => exact ⟨0, Nat.zero_le _, rfl, by simpa [lowB] using hown, Grew.refl _ _⟩
  case round =>
    obtain ⟨k, hk, rfl, hown', hg⟩ := hrel
    by_cases hlt : k < size
    · go_wp2_with (at_builtin; refine wpList_append_own_at _ rfl (.tmp 12) (.tmp 18) 22 rfl base 5 i0 (.int .u8 0) 1 1 Tryd.underlying22 hi hz0 hz1 hz2 rfl (by omega) u0 (n + k) _ rfl (hown'.alloc _) ⟨wr.heap.size, 0, none⟩ 1 1 [.int .u8 (x / 256 ^ k % 256)] rfl rfl ?_ ?_ (by unfold maxLen; omega) (by omega) (by have := hg.by_.size; simp; omega) ?_; rotate_right; intro v1 w1 hown1 hg1 _ hat1)
      · go_roundw
        case rel => exact ⟨k + 1, by omega, by go_num, by rw [lowB_snoc, ← List.append_assoc, nums_append, ← Nat.add_assoc]; exact hown1, (hg.alloc _).append hg1 hat1⟩
        case measure => simp [intOf]; omega
      · intro j u hj
        match j, hj with
        | 0, hj => simp at hj; subst hj; simp [Addr.add, pow256]
      · intro u hu
        simp at hu
        subst hu
        rfl
    · go_wp2
      go_ret
      obtain rfl : k = size := by omega
      exact ⟨u0, rfl, hown', hg⟩

/-- Put, of a size that may be: a row of the call's own. -/
def OwnPost (w : World) (n : Nat) (cs : List Int) (e : Ending) (w' : World) : Prop :=
  ∃ v, e = .returned v ∧ w'.ownsRow w.heap.size 5 1 v n (nums .u8 cs) ∧ Below w.heap.size w w'

set_option maxHeartbeats 800000 in
theorem Put_any (size m c : Nat) (a : Option Addr) (xs : List Int) (w : World) (h1 : 1 ≤ size) (h8 : size ≤ 8) (hlen : xs.length = m) (hm : m ≤ 1000000)
    (hsee : Sees w w.heap.size a (nums .u64 xs)) (hb : ∀ x ∈ xs, 0 ≤ x ∧ x ≤ 18446744073709551615) :
    Calls Tryd.prog 41 #[.int .i64 size, .slice a m c] w (OwnPost w (size * m) (allB size xs)) := by
  obtain ⟨i0, hi, hz0, hz1, hz2⟩ := info_parts info_u8
  have hmul : size * m ≤ 8 * 1000000 := Nat.mul_le_mul h8 hm
  have hmi : (size : Int) * (m : Int) ≤ 8000000 := by
    have : ((size * m : Nat) : Int) ≤ 8000000 := by omega
    rwa [Int.natCast_mul] at this
  have hmi0 : 0 ≤ (size : Int) * (m : Int) := Int.mul_nonneg (by omega) (by omega)
  go_enter Tryd.func41, Tryd.ntmps41
  go_wp2_with (first
    | (go_at_call 53; refine (fits_yes _ _ (by omega) (by omega)).mono ?_; rintro e w' ⟨rfl, rfl⟩)
    | (at_make; refine wpList_make_own _ rfl _ _ 22 rfl w.heap.size 5 i0 (.int .u8 0) 1 Tryd.underlying22 hi hz0 hz1 _ _ _ (size * m) rfl rfl (by simp) (by rw [hz2]; omega) (by unfold maxLen; omega) (Nat.le_refl _) ?_; intro w0 hown0 hgrow0))
  have hb0 : Below w.heap.size w w0 := (Below.refl _ _).grown hgrow0 (Nat.le_refl _) (fun k h => by cases h)
  go_loopw [5, 18] (fun b i wr => ∃ k : Nat, k ≤ m ∧ i = .int .i64 k ∧ wr.ownsRow w.heap.size 5 1 b (size * k) (nums .u8 (allB size (xs.take k))) ∧ Below w.heap.size w wr)
    (fun _ i _ => m - (intOf i).toNat)
  case atStart => exact ⟨0, Nat.zero_le _, rfl, by simpa [allB, nums] using hown0, hb0⟩
  case round =>
    obtain ⟨k, hk, rfl, hown, hbel⟩ := hrel
    by_cases hlt : k < m
    · obtain ⟨b, o, rfl, hbB, hc⟩ := hsee.at_ (nums_at .u64 xs k (by omega))
      have hx := hb _ (get_mem xs k (by omega) 0)
      have hc' := (bcell hbel b (o + k) hbB).trans hc
      have hkm : size * k ≤ size * m := Nat.mul_le_mul_left _ (by omega)
      have hsz := hbel.size
      generalize hxk : xs[k]?.getD 0 = x at hc' hx
      have HX := Lib.hid hxk
      have HC := Lib.hid hc
      clear hxk hc
      go_wp2_with (go_at_call 54; go_loud (refine (put_any _ (size * k) size x (allB size (xs.take k)) w.heap.size _ h8 hx.1 hx.2 hown (by omega) (by omega)).mono ?_); rintro e w' ⟨v', rfl, hown', hg'⟩)
      go_roundw
      case rel =>
        refine ⟨k + 1, by omega, by go_num, ?_, hbel.trans (hg'.below (by omega) (fun g hg => (hown.lt g hg).1))⟩
        rw [take_snoc xs k (by omega) 0, HX.out, allB_snoc, Nat.mul_succ]
        exact hown'
      case measure => simp [intOf]; omega
    · go_wp2
      go_ret
      obtain rfl : k = m := by omega
      rw [List.take_of_length_le (by omega)] at hown
      exact ⟨_, rfl, hown, hbel⟩

theorem Put_no (n : Int) (v : Value) (w : World) (h : n < 1 ∨ 8 < n) : Calls Tryd.prog 41 #[.int .i64 n, v] w fun e w' => e = .returned (.slice none 0 0) ∧ w = w' := by
  go_enter Tryd.func41, Tryd.ntmps41
  go_wp2_with (go_at_call 53; refine (fits_no _ _ h).mono ?_; rintro e w' ⟨rfl, rfl⟩)
  go_ret
  exact ⟨rfl, rfl⟩

end Go.Proofs.YtjedkkkhficmoaaDoor.Oct
