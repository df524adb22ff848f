/- The speeds that may come, from the greatest one on: the iterator's contract. -/
import Derived.Test.YtmdljmlnfihmcaaPlaA
namespace Go.Proofs.Ytmdljmlnfihmcaa.Pla
open Go.RowKit Go.Shelf Go.Proofs.Ytmdljmlnfihmcaa.PlaP
set_option linter.unusedVariables false
attribute [local go_sem] Oper.semAt_some

theorem spd_hi {v m : Int} {k : Nat} (v0 : 0 ≤ v) (v8 : v ≤ 8) (m1 : 1 ≤ m) (m8 : m ≤ 8) (h : k < len v m) : lo v ≤ hi v m - (k : Int) := by unfold len at h; omega
theorem spd_end {v m : Int} {k : Nat} (v0 : 0 ≤ v) (v8 : v ≤ 8) (m1 : 1 ≤ m) (m8 : m ≤ 8) (hk : k ≤ len v m) (h : ¬ k < len v m) : ¬ lo v ≤ hi v m - (k : Int) := by unfold len at *; omega
theorem len_le {v m : Int} (v0 : 0 ≤ v) (v8 : v ≤ 8) (m1 : 1 ≤ m) (m8 : m ≤ 8) : len v m ≤ 9 := by unfold len hi lo; omega
theorem hi_bd {v m : Int} (v0 : 0 ≤ v) (v8 : v ≤ 8) (m1 : 1 ≤ m) (m8 : m ≤ 8) : 0 ≤ hi v m ∧ hi v m ≤ 8 := by unfold hi; omega
theorem lo_bd {v : Int} (v0 : 0 ≤ v) (v8 : v ≤ 8) : 0 ≤ lo v ∧ lo v ≤ 7 := by unfold lo; omega

set_option maxRecDepth 100000 in
set_option maxHeartbeats 2000000 in
/-- FOR EVERY LOOP BODY THAT KEEPS WHAT LAY BELOW n₀. -/
theorem fast1_in (F : Fence) (n : Nat) (hf : F.fn 34) (hro : F.round = none) (hn : 1 ≤ n) (l Bm Bv n₀ : Nat) (v m : Int) (v0 : 0 ≤ v) (v8 : v ≤ 8) (m1 : 1 ≤ m) (m8 : m ≤ 8) (hBm : Bm < n₀) (hBv : Bv < n₀) (J Jx : List Int → World → Prop)
    (hY : ∀ pre x W, J pre W → pre.length < len v m → YieldAt F (n - 1) Try.prog l #[.int .i64 x] W fun e W' =>
      (e = .returned (.bool true) ∧ J (pre ++ [x]) W' ∧ Below n₀ W W') ∨ (e = .returned (.bool false) ∧ Jx (pre ++ [x]) W'))
    (W : World) (cm : W.cell? ⟨Bm, 0, none⟩ = some (.int .i64 m)) (cv : W.cell? ⟨Bv, 0, none⟩ = some (.int .i64 v)) (h0 : J [] W) :
    CallsIn F n Try.prog 34 #[.func (.yield l) #[] #[], .pointer (some ⟨Bm, 0, none⟩), .pointer (some ⟨Bv, 0, none⟩)] W fun e W' => (∃ v, e = .returned v) ∧
      ((∃ ys, ys = spd v m ∧ J ys W') ∨ (∃ pre, pre <+: spd v m ∧ Jx pre W')) := by
  have e1 : IntKind.i64.wrap (v + 1) = v + 1 := IntWalk.i64_in _ (by omega)
  have e2 : IntKind.i64.wrap (v - 1) = v - 1 := IntWalk.i64_in _ (by omega)
  have n1 : ∀ W, (Builtin.min_ #[3, 3] 3 #[.int .i64 m, .int .i64 (v + 1)]).run Try.prog W = .ok (.int .i64 (hi v m)) W := fun W => by
    rw [run_min_int2]; congr 2; unfold hi; split <;> omega
  have n2 : ∀ W, (Builtin.max_ #[3, 3] 3 #[.int .i64 0, .int .i64 (v - 1)]).run Try.prog W = .ok (.int .i64 (lo v)) W := fun W => by
    rw [run_max_int2]; congr 2; unfold lo; split <;> omega
  have hl := len_le v0 v8 m1 m8
  have hh := hi_bd v0 v8 m1 m8
  have hlo := lo_bd v0 v8
  have P1 := Lib.hid (fun k => spd_hi (k := k) v0 v8 m1 m8)
  have P2 := Lib.hid (fun k => spd_end (k := k) v0 v8 m1 m8)
  refine callsIn_of_wp Try.func34 rfl hf ?_ hro
  simp only [Try.ntmps34, List.size_toArray, List.length_cons, List.length_nil, Nat.reduceAdd, Nat.reduceSub, Array.replicate_succ, Array.replicate_zero, List.push_toArray, List.append_toArray, List.nil_append, List.cons_append]
  gi_wp2
  gi_loopw [4] (fun x wr => ∃ k : Nat, k ≤ len v m ∧ x = .int .i64 (hi v m - (k : Int)) ∧ J (upto (hi v m) k) wr ∧ Below n₀ W wr)
    (fun x _ => (intOf x + 1).toNat)
  case atStart => exact ⟨0, Nat.zero_le _, by simp, h0, Below.refl _ _⟩
  case round =>
    obtain ⟨k, hk, rfl, hJs, hnx⟩ := hrel
    have cv' := (hnx.cell (p := ⟨Bv, 0, none⟩) hBv).trans cv
    by_cases hlt : k < len v m
    · obtain ⟨fn, tmps, assign, body, hy, hR⟩ := hY _ (hi v m - (k : Int)) wr hJs (by rw [upto_length]; exact hlt)
      have hge := P1.out k hlt
      gi_wp2
      refine hR.mono ?_
      rintro e W3 (⟨rfl, hJ3, hk3⟩ | ⟨rfl, hJx3⟩)
      · gi_wp2
        go_roundw
        case rel => exact ⟨k + 1, by omega, by simp; omega, by rw [upto_succ]; exact hJ3, hnx.trans hk3⟩
        case measure => simp [intOf]; omega
      · gi_wp2
        refine bodyPost_ret (results_none rfl _ _ _) rfl ?_
        exact ⟨⟨_, rfl⟩, .inr ⟨_, by rw [← upto_succ]; exact upto_prefix _ (by omega), hJx3⟩⟩
    · have hge := P2.out k hk hlt
      gi_wp2
      go_end0
      exact ⟨⟨_, rfl⟩, .inl ⟨_, by rw [show k = len v m by omega]; rfl, hJs⟩⟩

theorem fast_stops (F : Fence) (n : Nat) (hf : F.fn 34) (hro : F.round = none) (hn : 1 ≤ n) (Bm Bv n₀ : Nat) (v m : Int) (v0 : 0 ≤ v) (v8 : v ≤ 8) (m1 : 1 ≤ m) (m8 : m ≤ 8) (hBm : Bm < n₀) (hBv : Bv < n₀) (w : World) (hn₀ : n₀ ≤ w.heap.size)
    (cm : w.cell? ⟨Bm, 0, none⟩ = some (.int .i64 m)) (cv : w.cell? ⟨Bv, 0, none⟩ = some (.int .i64 v)) :
    SeqStopsK F n Try.prog 34 #[.pointer (some ⟨Bm, 0, none⟩), .pointer (some ⟨Bv, 0, none⟩)] (fun x : Int => #[Value.int .i64 x]) (Below n₀) (fun ys => ys = spd v m) (fun pre => pre <+: spd v m) (len v m) w := fun l J Jx W hW _ _ hY h0 =>
  fast1_in F n hf hro hn l Bm Bv n₀ v m v0 v8 m1 m8 hBm hBv J Jx hY W ((hW.cell (p := ⟨Bm, 0, none⟩) (by simp; omega)).trans cm) ((hW.cell (p := ⟨Bv, 0, none⟩) (by simp; omega)).trans cv) h0

end Go.Proofs.Ytmdljmlnfihmcaa.Pla
