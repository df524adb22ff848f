/- The contract of turn's ring. -/
import Derived.Test.YtalkngnejnkemaaTrnA
namespace Go.Proofs.Ytalkngnejnkemaa.Trn
open Go.RowKit Go.Proofs.Ytalkngnejnkemaa.Plain Go.Proofs.Ytalkngnejnkemaa.OrdP Go.Proofs.Ytalkngnejnkemaa.TrnP Go.Proofs.Ytalkngnejnkemaa.Ord Go.Proofs.Ytalkngnejnkemaa.Sees Go.Proofs.Ytalkngnejnkemaa.Box Go.Proofs.Ytalkngnejnkemaa.Held
set_option linter.unusedVariables false

theorem info_intU : (Try.prog.info? 3).map (fun i => (i.zero, i.size, i.bytes)) = some (some (.int .i64 0), 1, 8) := by kernel_rfl
/-- a ring of which k are laid -/
def rk (f k : Nat) : List Int := ((rg f).take k) ++ List.replicate (64 - k) 0
def rc (f k : Nat) : Array Value := (nums .i64 (rk f k)).toArray
theorem rk_len (f k : Nat) (h : k ≤ 64) : (rk f k).length = 64 := by unfold rk; rw [List.length_append, List.length_take, rg_len, List.length_replicate]; omega
theorem made_one (n : Nat) : (List.replicate n (Value.int .i64 0)).toArray = madeCells #[.int .i64 0] n := by
  unfold madeCells
  apply Array.ext
  · simp
  · intro i h1 h2
    simp [Nat.mod_one]
theorem rc_zero (f : Nat) : rc f 0 = madeCells #[.int .i64 0] 64 := by
  have h : rk f 0 = List.replicate 64 0 := by unfold rk; simp
  unfold rc
  rw [h]
  unfold nums
  rw [List.map_replicate]
  exact made_one 64
theorem rc_at (f k j : Nat) (hk : k ≤ 64) (hj : j < 64) : ∃ v, (rc f k)[j]? = some v := by
  unfold rc
  exact ⟨_, Array.getElem?_eq_getElem (by simp [nums, rk_len f k hk]; exact hj)⟩
theorem rc_set (f k : Nat) (hk : k < 64) : (rc f k).setIfInBounds k (.int .i64 (rx f k)) = rc f (k + 1) := by
  have h : (rk f k).set k (rx f k) = rk f (k + 1) := by
    unfold rk
    have h1 : ((rg f).take k).length = k := by rw [List.length_take, rg_len]; omega
    rw [List.set_append_right _ _ (by omega), h1, Nat.sub_self, List.take_add_one, rg_at f k hk, show 64 - k = (64 - (k + 1)) + 1 by omega, List.replicate_succ, List.set_cons_zero]
    simp
  unfold rc
  rw [← h]
  unfold nums
  rw [List.map_set]
  simp
theorem rc_full (f : Nat) : rc f 64 = (nums .i64 (rg f)).toArray := by
  unfold rc rk
  rw [List.take_of_length_le (by rw [rg_len]; exact Nat.le_refl _)]; simp

def RingPost (w : World) (f : Nat) (e : Ending) (w' : World) : Prop :=
  e = .returned (.slice (some ⟨w.heap.size, 0, none⟩) 64 64) ∧ Below w.heap.size w w' ∧ Bx w' w.heap.size (nums .i64 (rg f)).toArray

set_option maxHeartbeats 1600000 in
theorem ring_any (c : Int) (w : World) : Calls Try.prog 18 #[.int .i64 c] w (RingPost w (fs c)) := by
  have m1 : ∀ W, (Builtin.min_ #[3, 3] 3 #[.int .i64 c, .int .i64 63]).run Try.prog W = .ok (.int .i64 (min c 63)) W := fun W => by
    rw [run_min_int2]; congr 2; split <;> omega
  have m2 : ∀ W, (Builtin.max_ #[3, 3] 3 #[.int .i64 (-1), .int .i64 (min c 63)]).run Try.prog W = .ok (.int .i64 (max (-1) (min c 63))) W := fun W => by
    rw [run_max_int2]; congr 2; split <;> omega
  have e1 : IntKind.i64.wrap (max (-1) (min c 63) + 1) = (fs c : Int) := by unfold fs; rw [IntWalk.i64_in _ (by omega)]; omega
  have hf := fs_le c
  have hmk : ∀ W, (Instr.makeSlice 41 (.int .i64 64) (.int .i64 64)).run Try.prog W = .ok (.slice (some ⟨W.heap.size, 0, none⟩) 64 64) (W.alloc (.cells (rc (fs c) 0) 3)) := fun W => by
    rw [rc_zero]
    exact run_make_row' (P := Try.prog) 41 3 (.int .i64 0) 8 Try.underlying41 info_intU rfl .i64 .i64 64 (by decide) (by decide) W
  generalize max (-1) (min c 63) = y at *
  generalize min c 63 = x at *
  generalize fs c = f at *
  have hf' := Lib.hid hf
  clear hf
  have hb0 := Lib.hid (Bx.new w (rc f 0) 3)
  have hB0 : Below w.heap.size w (w.alloc (.cells (rc f 0) 3)) := below_box
  obtain ⟨w0, hw0⟩ : ∃ w0, w.alloc (.cells (rc f 0) 3) = w0 := ⟨_, rfl⟩
  rw [hw0] at hb0 hB0
  have HB0 := Lib.hid hB0
  clear hB0
  go_enter Try.func18, Try.ntmps18
  go_wp2
  clear hw0
  go_loopw [5, 13] (fun z i wr => ∃ k : Nat, i = .int .i64 k ∧ k ≤ 64 ∧ Hid (Bx wr w.heap.size (rc f k) ∧ Below w.heap.size w wr)) (fun _ i _ => 64 - (intOf i).toNat)
  case atStart => exact ⟨0, rfl, by omega, Lib.hid ⟨hb0.out, HB0.out⟩⟩
  case round =>
    clear hb0 HB0
    obtain ⟨k, rfl, hk, hM⟩ := hrel
    by_cases hlt : k < 64
    · obtain ⟨u, hu⟩ := rc_at f k k (by omega) hlt
      have hu1 := hM.out.1.cell hu
      have hf1 := hM.out.1.fr k
      have hn := hM.out.1.set (j := k) (.int .i64 (rx f k))
      rw [rc_set f k hlt] at hn
      have hn2 : Below w.heap.size w (wr.setCell ⟨w.heap.size, k, none⟩ (.int .i64 (rx f k))) := below_set (Nat.le_refl _) hM.out.2
      have HN := Lib.hid (And.intro hn hn2)
      have i1 : (k : Int) < 64 := by omega
      have e2 : IntKind.i64.wrap ((f : Int) + (k : Int)) = ((f + k : Nat) : Int) := by rw [IntWalk.i64_in _ (by have := hf'.out; omega)]; omega
      have e3 : IntKind.i64.wrap ((k : Int) + 1) = ((k + 1 : Nat) : Int) := by rw [IntWalk.i64_in _ (by omega)]; omega
      have e4 : Hid (((f + k : Nat) : Int) % 64 = rx f k) := Lib.hid (by unfold rx; omega)
      generalize rx f k = x at *
      clear hn hn2 hu
      generalize f + k = s at *
      go_wp2
      go_roundw
      case rel => exact ⟨k + 1, rfl, by omega, by rw [e4.out]; exact HN⟩
      case measure => simp [intOf]; omega
    · obtain rfl : k = 64 := by omega
      have HR := hM.out
      rw [rc_full] at HR
      clear hM
      have HR' := Lib.hid HR
      clear HR
      go_wp2
      go_ret
      exact ⟨rfl, HR'.out.2, HR'.out.1⟩
end Go.Proofs.Ytalkngnejnkemaa.Trn
