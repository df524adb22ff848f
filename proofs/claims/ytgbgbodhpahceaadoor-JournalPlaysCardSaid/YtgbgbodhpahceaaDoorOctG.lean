/- The contract of the reference's Get of layer 1. -/
import Derived.Test.YtgbgbodhpahceaaDoorOctF
namespace Go.Proofs.YtgbgbodhpahceaaDoor.Oct
open Go.RowKit Go.Proofs.YtgbgbodhpahceaaDoor.Plain Go.Proofs.YtgbgbodhpahceaaDoor.Sees
set_option linter.unusedVariables false
set_option maxRecDepth 100000

theorem rget_arg (n : Int) (v : Value) (w : World) (h : n < 1 ∨ 8 < n) : Calls Tryd.prog 52 #[.int .i64 n, v] w fun e w' => e = .returned (.tuple #[.slice none 0 0, .int .i64 1]) ∧ w = w' := by
  rcases (show n < 1 ∨ ¬ n < 1 ∧ 8 < n by omega) with h | ⟨h, h'⟩
  all_goals
    go_enter Tryd.func52, Tryd.ntmps52
    go_wp2
    go_ret2
    exact ⟨rfl, rfl⟩

theorem rget_short (size : Nat) (bs : List Int) (w : World) (h1 : 1 ≤ size) (h8 : size ≤ 8) (hm : bs.length ≤ 1000000) (hr : bs.length % size ≠ 0) :
    Calls Tryd.prog 52 #[.int .i64 size, .string (strOfNums bs)] w fun e w' => e = .returned (.tuple #[.slice none 0 0, .int .i64 10]) ∧ w = w' := by
  have hsz : (strOfNums bs).size = bs.length := strOfNums_size bs
  generalize hL : bs.length = L at *
  have hrem : (0 : Int) < (L : Int) % (size : Int) := by omega
  have hrem2 : ((L : Int) % (size : Int)) ≤ 1000000 := by
    have := Int.emod_lt_of_pos (L : Int) (show (0 : Int) < size by omega)
    omega
  have HL := Lib.hid hL
  clear hL hr
  go_enter Tryd.func52, Tryd.ntmps52
  go_wp2
  go_ret2
  exact ⟨rfl, rfl⟩

theorem ofB_drop (l : List Int) (j : Nat) (h : j < l.length) : ofB (l.drop j) = l[j]?.getD 0 + 256 * ofB (l.drop (j + 1)) := by
  rw [List.drop_eq_getElem_cons h]
  simp [ofB, h]

set_option maxHeartbeats 1600000 in
theorem rget_any (size q : Nat) (bs : List Int) (w : World) (h1 : 1 ≤ size) (h8 : size ≤ 8) (hlen : bs.length = size * q) (hq : q ≤ 100000)
    (hb : ∀ b ∈ bs, 0 ≤ b ∧ b ≤ 255) :
    Calls Tryd.prog 52 #[.int .i64 size, .string (strOfNums bs)] w (NumsPost w q (grp q size bs)) := by
  obtain ⟨i0, hi, hz0, hz1, hz2⟩ := info_parts info_u64
  have hmul : size * q ≤ 8 * 100000 := Nat.mul_le_mul h8 hq
  have hmod : size * q % size = 0 := Nat.mul_mod_right size q
  have hsz : (strOfNums bs).size = bs.length := strOfNums_size bs
  rw [hlen] at hsz
  generalize hm : size * q = m at *
  have hrem : ¬ (0 : Int) < (m : Int) % (size : Int) := by omega
  have HM := Lib.hid hm
  have HLEN := Lib.hid hlen
  clear hmod hm hlen
  go_enter Tryd.func52, Tryd.ntmps52
  go_wp2
  go_loopw [1, 6] (fun s l wr => ∃ j : Nat, j ≤ q ∧ s = .string (strOfNums (bs.drop (size * j))) ∧ wr.ownsRow w.heap.size 25 1 l j (nums .u64 (grp j size bs)) ∧ Below w.heap.size w wr)
    (fun s _ _ => match s with | .string b => b.size | _ => 0)
  case atStart => exact ⟨0, Nat.zero_le _, by simp, World.ownsRow_nil _ _ _ _, Below.refl _ _⟩
  case round =>
    obtain ⟨j, hj, rfl, hown, hbel⟩ := hrel
    have hwsz := hbel.size
    by_cases hlt : j < q
    · have hjm : size * j + size ≤ m := by
        have := HM.out
        have h2 : size * (j + 1) ≤ size * q := Nat.mul_le_mul_left _ hlt
        rw [Nat.mul_succ] at h2
        omega
      have hdl : (bs.drop (size * j)).length = m - size * j := by rw [List.length_drop, HLEN.out]
      have hgs := grp_snoc j size bs
      have hdd : bs.drop (size * (j + 1)) = (bs.drop (size * j)).drop size := by rw [List.drop_drop, Nat.mul_succ]
      have hlb : ∀ b ∈ bs.drop (size * j), 0 ≤ b ∧ b ≤ 255 := fun b h => hb b (List.mem_of_mem_drop h)
      generalize bs.drop (size * j) = l at *
      have hln : size ≤ l.length := by omega
      have hl0 : ¬ (strOfNums l).toList = [] := by rw [str_toList]; intro h; simp at h; subst h; simp at hln; omega
      have hl1 : (strOfNums l).toList.isEmpty = false := by simp [hl0]
      have hfrom : ∀ W, (Instr.slice 9 (.string (strOfNums l)) (some (.int .i64 (size : Int))) none none).run Tryd.prog W = .ok (.string (strOfNums (l.drop size))) W := fun W => run_str_from W l size hln
      have hszl : (strOfNums l).size = l.length := strOfNums_size l
      have HG := Lib.hid hgs
      have HDD := Lib.hid hdd
      have HDL := Lib.hid hdl
      clear hgs hdd hdl
      go_wp2
      go_loop [7, 8] (fun x i => ∃ k : Nat, k ≤ size ∧ i = .int .i64 ((k : Int) - 1) ∧ x = .int .u64 (ofB ((l.take size).drop k))) (fun _ i => (intOf i + 1).toNat)
      case atStart => exact ⟨size, Nat.le_refl _, rfl, by rw [List.drop_eq_nil_of_le (by simp; omega)]; rfl⟩
      case round =>
        obtain ⟨k, hk, rfl, rfl⟩ := hrel
        by_cases hk0 : k = 0
        · subst hk0
          rw [List.drop_zero]
          have hv := ofB_bounds (l.take size) (fun b h => hlb b (List.mem_of_mem_take h))
          generalize hV : ofB (l.take size) = V at *
          have HV := Lib.hid hV
          clear hV
          go_wp2_with (at_builtin; go_loud (refine wpList_append_own_at _ rfl (.tmp 35) (.tmp 37) 76 rfl w.heap.size 25 i0 (.int .u64 0) 1 8 Tryd.underlying76 hi hz0 hz1 hz2 rfl (by omega) u6 j _ rfl (hown.alloc _) ⟨wr.heap.size, 0, none⟩ 1 1 [.int .u64 V] rfl rfl (new_cell _ _ _) (one_cell _ _) (by unfold maxLen; omega) (by omega) (by simp; omega) ?_); intro v1 w1 hown1 hg1 _ hat1)
          go_roundw
          case rel =>
            refine ⟨j + 1, by omega, by rw [HDD.out], ?_, (hbel.alloc (by omega) _).grown hg1 (by simp; omega) (fun g hg => (hown.lt g hg).1)⟩
            rw [HG.out, nums_append]
            exact hown1
          case measure => simp [strOfNums_size]; omega
        · obtain ⟨k, rfl⟩ : ∃ k', k = k' + 1 := ⟨k - 1, by omega⟩
          have hkl : k < (l.take size).length := by simp; omega
          have hst := ofB_drop (l.take size) k hkl
          have hb1 := ofB_bounds ((l.take size).drop (k + 1)) (fun b h => hlb b (List.mem_of_mem_take (List.mem_of_mem_drop h)))
          have hpow : (256 : Int) ^ ((l.take size).drop (k + 1)).length ≤ 72057594037927936 := by
            have hlen7 : ((l.take size).drop (k + 1)).length ≤ 7 := by simp; omega
            generalize ((l.take size).drop (k + 1)).length = c at *
            have hc : c = 0 ∨ c = 1 ∨ c = 2 ∨ c = 3 ∨ c = 4 ∨ c = 5 ∨ c = 6 ∨ c = 7 := by omega
            rcases hc with h | h | h | h | h | h | h | h <;> rw [h] <;> decide
          have hgl : (l.take size)[k]?.getD 0 = l[k]?.getD 0 := by rw [List.getElem?_take, if_pos (by omega)]
          have hbk := hlb _ (get_mem l k (by omega) 0)
          have hidx := fun W => run_str_index W l k (by omega) hlb
          rw [hgl] at hst
          have hv2 : ofB ((l.take size).drop (k + 1)) < 72057594037927936 := by omega
          have hv1 := hb1.1
          have HST := Lib.hid hst
          clear hst hgl hb1 hpow
          generalize ofB ((l.take size).drop (k + 1)) = V at *
          generalize l[k]?.getD 0 = b at *
          have hk1 : ((k + 1 : Nat) : Int) - 1 = (k : Int) := by omega
          rw [hk1]
          clear hk1
          go_wp2
          go_round
          case rel => exact ⟨k, by omega, rfl, by rw [HST.out]; go_num⟩
          case measure => simp [intOf]
    · obtain rfl : q = j := by omega
      have hnil : bs.drop (size * q) = [] := List.drop_eq_nil_of_le (by rw [HLEN.out, HM.out]; exact Nat.le_refl _)
      rw [hnil, str_nil]
      have HNIL := Lib.hid hnil
      clear hnil
      go_wp2
      go_ret2
      exact ⟨_, rfl, hown, hbel⟩

end Go.Proofs.YtgbgbodhpahceaaDoor.Oct
