import Derived.Test.YtjedkkkhficmoaaDoorStr
import Derived.Test.YtjedkkkhficmoaaDoorOctB
import Derived.Test.YtjedkkkhficmoaaDoorCrcB

/- The contract of the reference's Num of layer 1. -/
namespace Go.Proofs.YtjedkkkhficmoaaDoor.Oct
open Go.RowKit Go.Proofs.YtjedkkkhficmoaaDoor.Plain Go.Proofs.YtjedkkkhficmoaaDoor.Sees
set_option linter.unusedVariables false

def StrPost (w : World) (bs : List Int) (e : Ending) (w' : World) : Prop := e = .returned (.string (strOfNums bs)) ∧ Below w.heap.size w w'

theorem num_none (size : Int) (x : Int) (w : World) (h : size < 1 ∨ 8 < size) (hx0 : 0 ≤ x) (hx1 : x ≤ 18446744073709551615) : Calls Tryd.prog 72 #[.int .i64 size, .int .u64 x] w (StrPost w []) := by
  rcases (show ¬ 0 < size ∨ 0 < size ∧ ¬ size ≤ 8 by omega) with h | ⟨h, h'⟩
  all_goals
    go_enter Tryd.func72, Tryd.ntmps72
    go_wp2
    refine wp_loop_rounds 1 ?_
    repeat any_goals (rw [rounds_succ]; go_wp2)
    go_ret
    exact ⟨rfl, Below.refl _ _⟩

set_option maxHeartbeats 800000 in
theorem num_any (n : Nat) (x : Int) (w : World) (h8 : n ≤ 8) (hx0 : 0 ≤ x) (hx1 : x ≤ 18446744073709551615) : Calls Tryd.prog 72 #[.int .i64 n, .int .u64 x] w (StrPost w (lowB n x)) := by
  have kc := conv_one
  go_enter Tryd.func72, Tryd.ntmps72
  go_wp2
  go_loopw [1, 5, 6] (fun y s i wr => ∃ k : Nat, k ≤ n ∧ i = .int .i64 k ∧ s = .string (strOfNums (lowB k x)) ∧ y = .int .u64 (x / 256 ^ k) ∧ Below w.heap.size w wr)
    (fun _ _ i _ => n - (intOf i).toNat)
  case atStart => exact ⟨0, Nat.zero_le _, rfl, rfl, by simp, Below.refl _ _⟩
  case round =>
    obtain ⟨k, hk, rfl, rfl, rfl, hbel⟩ := hrel
    have hsz := hbel.size
    have hy0 : 0 ≤ x / 256 ^ k := Int.ediv_nonneg hx0 (Int.le_of_lt (Int.pow_pos (by decide)))
    have hy1 : x / 256 ^ k ≤ 18446744073709551615 := Int.le_trans (Int.ediv_le_self _ hx0) hx1
    have hyn : x / 256 ^ k / 256 = x / 256 ^ (k + 1) := by
      rw [Int.ediv_ediv_of_nonneg (Int.le_of_lt (Int.pow_pos (by decide))), Int.pow_succ]
    have hadd : ∀ W, (Op.stringOp .add (strOfNums (lowB k x)) (strOfNums [x / 256 ^ k % 256])).run Tryd.prog W = .ok (.string (strOfNums (lowB (k + 1) x))) W := fun W => by
      rw [run_str_add W _ _ (by rw [lowB_length]; simp; omega), lowB_snoc]
    have HY := Lib.hid hyn
    clear hyn
    generalize x / 256 ^ k = y at *
    by_cases hlt : k < n
    · go_wp2
      go_roundw
      case rel => exact ⟨k + 1, by omega, by go_num, rfl, by rw [← HY.out], hbel.alloc hsz _⟩
      case measure => simp [intOf]; omega
    · go_wp2
      go_ret
      obtain rfl : k = n := by omega
      exact ⟨rfl, hbel⟩

end Go.Proofs.YtjedkkkhficmoaaDoor.Oct

/- The contract of the reference's Get of layer 1. -/
namespace Go.Proofs.YtjedkkkhficmoaaDoor.Oct
open Go.RowKit Go.Proofs.YtjedkkkhficmoaaDoor.Plain Go.Proofs.YtjedkkkhficmoaaDoor.Sees
set_option linter.unusedVariables false
set_option maxRecDepth 100000

theorem rget_arg (n : Int) (v : Value) (w : World) (h : n < 1 ∨ 8 < n) : Calls Tryd.prog 69 #[.int .i64 n, v] w fun e w' => e = .returned (.tuple #[.slice none 0 0, .int .i64 1]) ∧ w = w' := by
  rcases (show n < 1 ∨ ¬ n < 1 ∧ 8 < n by omega) with h | ⟨h, h'⟩
  all_goals
    go_enter Tryd.func69, Tryd.ntmps69
    go_wp2
    go_ret2
    exact ⟨rfl, rfl⟩

theorem rget_short (size : Nat) (bs : List Int) (w : World) (h1 : 1 ≤ size) (h8 : size ≤ 8) (hm : bs.length ≤ 1000000) (hr : bs.length % size ≠ 0) :
    Calls Tryd.prog 69 #[.int .i64 size, .string (strOfNums bs)] w fun e w' => e = .returned (.tuple #[.slice none 0 0, .int .i64 10]) ∧ w = w' := by
  have hsz : (strOfNums bs).size = bs.length := strOfNums_size bs
  generalize hL : bs.length = L at *
  have hrem : (0 : Int) < (L : Int) % (size : Int) := by omega
  have hrem2 : ((L : Int) % (size : Int)) ≤ 1000000 := by
    have := Int.emod_lt_of_pos (L : Int) (show (0 : Int) < size by omega)
    omega
  have HL := Lib.hid hL
  clear hL hr
  go_enter Tryd.func69, Tryd.ntmps69
  go_wp2
  go_ret2
  exact ⟨rfl, rfl⟩

theorem ofB_drop (l : List Int) (j : Nat) (h : j < l.length) : ofB (l.drop j) = l[j]?.getD 0 + 256 * ofB (l.drop (j + 1)) := by
  rw [List.drop_eq_getElem_cons h]
  simp [ofB, h]

set_option maxHeartbeats 1600000 in
theorem rget_any (size q : Nat) (bs : List Int) (w : World) (h1 : 1 ≤ size) (h8 : size ≤ 8) (hlen : bs.length = size * q) (hq : q ≤ 100000)
    (hb : ∀ b ∈ bs, 0 ≤ b ∧ b ≤ 255) :
    Calls Tryd.prog 69 #[.int .i64 size, .string (strOfNums bs)] w (NumsPost w q (grp q size bs)) := by
  obtain ⟨i0, hi, hz0, hz1, hz2⟩ := info_parts info_u64
  have hmul : size * q ≤ 8 * 100000 := Nat.mul_le_mul h8 hq
  have hmod : size * q % size = 0 := Nat.mul_mod_right size q
  have hsz : (strOfNums bs).size = bs.length := strOfNums_size bs
  rw [hlen] at hsz
  generalize hm : size * q = m at *
  have hrem : ¬ (0 : Int) < (m : Int) % (size : Int) := by omega
  have HM := Lib.hid hm
  have HLEN := Lib.hid hlen
  clear hmod hm hlen
  go_enter Tryd.func69, Tryd.ntmps69
  go_wp2
  go_loopw [1, 6] (fun s l wr => ∃ j : Nat, j ≤ q ∧ s = .string (strOfNums (bs.drop (size * j))) ∧ wr.ownsRow w.heap.size 59 1 l j (nums .u64 (grp j size bs)) ∧ Below w.heap.size w wr)
    (fun s _ _ => match s with | .string b => b.size | _ => 0)
  case atStart => exact ⟨0, Nat.zero_le _, by simp, World.ownsRow_nil _ _ _ _, Below.refl _ _⟩
  case round =>
    obtain ⟨j, hj, rfl, hown, hbel⟩ := hrel
    have hwsz := hbel.size
    by_cases hlt : j < q
    · have hjm : size * j + size ≤ m := by
        have := HM.out
        have h2 : size * (j + 1) ≤ size * q := Nat.mul_le_mul_left _ hlt
        rw [Nat.mul_succ] at h2
        omega
      have hdl : (bs.drop (size * j)).length = m - size * j := by rw [List.length_drop, HLEN.out]
      have hgs := grp_snoc j size bs
      have hdd : bs.drop (size * (j + 1)) = (bs.drop (size * j)).drop size := by rw [List.drop_drop, Nat.mul_succ]
      have hlb : ∀ b ∈ bs.drop (size * j), 0 ≤ b ∧ b ≤ 255 := fun b h => hb b (List.mem_of_mem_drop h)
      generalize bs.drop (size * j) = l at *
      have hln : size ≤ l.length := by omega
      have hl0 : ¬ (strOfNums l).toList = [] := by rw [str_toList]; intro h; simp at h; subst h; simp at hln; omega
      have hl1 : (strOfNums l).toList.isEmpty = false := by simp [hl0]
      have hfrom : ∀ W, (Instr.slice 9 (.string (strOfNums l)) (some (.int .i64 (size : Int))) none none).run Tryd.prog W = .ok (.string (strOfNums (l.drop size))) W := fun W => run_str_from W l size hln
      have hszl : (strOfNums l).size = l.length := strOfNums_size l
      have HG := Lib.hid hgs
      have HDD := Lib.hid hdd
      have HDL := Lib.hid hdl
      clear hgs hdd hdl
      go_wp2
      go_loop [7, 8] (fun x i => ∃ k : Nat, k ≤ size ∧ i = .int .i64 ((k : Int) - 1) ∧ x = .int .u64 (ofB ((l.take size).drop k))) (fun _ i => (intOf i + 1).toNat)
      case atStart => exact ⟨size, Nat.le_refl _, rfl, by rw [List.drop_eq_nil_of_le (by simp; omega)]; rfl⟩
      case round =>
        obtain ⟨k, hk, rfl, rfl⟩ := hrel
        by_cases hk0 : k = 0
        · subst hk0
          rw [List.drop_zero]
          have hv := ofB_bounds (l.take size) (fun b h => hlb b (List.mem_of_mem_take h))
          generalize hV : ofB (l.take size) = V at *
          have HV := Lib.hid hV
          clear hV
          go_wp2_with (at_builtin; go_loud (refine wpList_append_own_at _ rfl (.tmp 35) (.tmp 37) 89 rfl w.heap.size 59 i0 (.int .u64 0) 1 8 Tryd.underlying89 hi hz0 hz1 hz2 rfl (by omega) u6 j _ rfl (hown.alloc _) ⟨wr.heap.size, 0, none⟩ 1 1 [.int .u64 V] rfl rfl (new_cell _ _ _) (one_cell _ _) (by unfold maxLen; omega) (by omega) (by simp; omega) ?_); intro v1 w1 hown1 hg1 _ hat1)
          go_roundw
          case rel =>
            refine ⟨j + 1, by omega, by rw [HDD.out], ?_, (hbel.alloc (by omega) _).grown hg1 (by simp; omega) (fun g hg => (hown.lt g hg).1)⟩
            rw [HG.out, nums_append]
            exact hown1
          case measure => simp [strOfNums_size]; omega
        · obtain ⟨k, rfl⟩ : ∃ k', k = k' + 1 := ⟨k - 1, by omega⟩
          have hkl : k < (l.take size).length := by simp; omega
          have hst := ofB_drop (l.take size) k hkl
          have hb1 := ofB_bounds ((l.take size).drop (k + 1)) (fun b h => hlb b (List.mem_of_mem_take (List.mem_of_mem_drop h)))
          have hpow : (256 : Int) ^ ((l.take size).drop (k + 1)).length ≤ 72057594037927936 := by
            have hlen7 : ((l.take size).drop (k + 1)).length ≤ 7 := by simp; omega
            generalize ((l.take size).drop (k + 1)).length = c at *
            have hc : c = 0 ∨ c = 1 ∨ c = 2 ∨ c = 3 ∨ c = 4 ∨ c = 5 ∨ c = 6 ∨ c = 7 := by omega
            rcases hc with h | h | h | h | h | h | h | h <;> rw [h] <;> decide
          have hgl : (l.take size)[k]?.getD 0 = l[k]?.getD 0 := by rw [List.getElem?_take, if_pos (by omega)]
          have hbk := hlb _ (get_mem l k (by omega) 0)
          have hidx := fun W => run_str_index W l k (by omega) hlb
          rw [hgl] at hst
          have hv2 : ofB ((l.take size).drop (k + 1)) < 72057594037927936 := by omega
          have hv1 := hb1.1
          have HST := Lib.hid hst
          clear hst hgl hb1 hpow
          generalize ofB ((l.take size).drop (k + 1)) = V at *
          generalize l[k]?.getD 0 = b at *
          have hk1 : ((k + 1 : Nat) : Int) - 1 = (k : Int) := by omega
          rw [hk1]
          clear hk1
          go_wp2
          go_round
          case rel => exact ⟨k, by omega, rfl, by rw [HST.out]; go_num⟩
          case measure => simp [intOf]
    · obtain rfl : q = j := by omega
      have hnil : bs.drop (size * q) = [] := List.drop_eq_nil_of_le (by rw [HLEN.out, HM.out]; exact Nat.le_refl _)
      rw [hnil, str_nil]
      have HNIL := Lib.hid hnil
      clear hnil
      go_wp2
      go_ret2
      exact ⟨_, rfl, hown, hbel⟩

end Go.Proofs.YtjedkkkhficmoaaDoor.Oct

/- The contract of the reference's Part of layer 1. -/
namespace Go.Proofs.YtjedkkkhficmoaaDoor.Oct
open Go.RowKit Go.Proofs.YtjedkkkhficmoaaDoor.Plain Go.Proofs.YtjedkkkhficmoaaDoor.Sees
set_option linter.unusedVariables false
set_option maxRecDepth 100000

theorem info_string : (Tryd.prog.info? 9).map (fun i => (i.zero, i.size, i.bytes)) = some (some (.string ByteArray.empty), 1, 16) := by kernel_rfl

def strs (l : List (List Int)) : List Value := l.map fun p => .string (strOfNums p)

def RPartPost (w : World) (bs : List Int) (e : Ending) (w' : World) : Prop :=
  (parts bs = none ∧ e = .returned (.tuple #[.slice none 0 0, .int .i64 10]) ∧ Below w.heap.size w w') ∨
  ∃ v ps, parts bs = some ps ∧ e = .returned (.tuple #[v, .int .i64 0]) ∧ w'.ownsRow w.heap.size 9 1 v ps.length (strs ps) ∧ Below w.heap.size w w'

theorem one_str (s : ByteArray) : ∀ u ∈ [Value.string s], u.oneCell' = true := by
  intro u hu
  simp at hu
  subst hu
  rfl
theorem run_str_index0 (W : World) (x y : Int) (r : List Int) (hb : ∀ b ∈ x :: y :: r, 0 ≤ b ∧ b ≤ 255) :
    (Instr.index 9 (.string (strOfNums (x :: y :: r))) (.int .i64 0)).run Tryd.prog W = .ok (.int .u8 x) W :=
  run_str_index W (x :: y :: r) 0 (by simp) hb
theorem run_str_index1 (W : World) (x y : Int) (r : List Int) (hb : ∀ b ∈ x :: y :: r, 0 ≤ b ∧ b ≤ 255) :
    (Instr.index 9 (.string (strOfNums (x :: y :: r))) (.int .i64 1)).run Tryd.prog W = .ok (.int .u8 y) W :=
  run_str_index W (x :: y :: r) 1 (by simp) hb

set_option maxHeartbeats 1600000 in
theorem rpart_any (bs : List Int) (w : World) (hlen : bs.length ≤ 1000000) (hb : ∀ b ∈ bs, 0 ≤ b ∧ b ≤ 255) :
    Calls Tryd.prog 63 #[.string (strOfNums bs)] w (RPartPost w bs) := by
  obtain ⟨i1, hj, hy0, hy1, hy2⟩ := info_parts info_string
  go_enter Tryd.func63, Tryd.ntmps63
  go_wp2
  go_loopw [0, 4] (fun s out wr => ∃ (l : List Int) (done : List (List Int)), l.length + 2 * done.length ≤ bs.length ∧ (∀ b ∈ l, 0 ≤ b ∧ b ≤ 255) ∧ s = .string (strOfNums l) ∧ parts bs = (parts l).map (done ++ ·) ∧
      wr.ownsRow w.heap.size 9 1 out done.length (strs done) ∧ Below w.heap.size w wr)
    (fun s _ _ => match s with | .string b => b.size | _ => 0)
  case atStart => exact ⟨bs, [], by simp, hb, rfl, by simp, World.ownsRow_nil _ _ _ _, Below.refl _ _⟩
  case round =>
    obtain ⟨l, done, hll, hlb, rfl, hparts, hown, hbel⟩ := hrel
    have hwsz := hbel.size
    have HP := Lib.hid hparts
    clear hparts
    have hdl : done.length ≤ 1000000 := by omega
    match l, hll, hlb, HP with
    | [], hll, hlb, HP =>
      rw [str_nil]
      go_wp2
      go_ret2
      have hp := HP.out
      rw [parts_nil] at hp
      exact .inr ⟨_, done, by simpa using hp, rfl, hown, hbel⟩
    | [x], hll, hlb, HP =>
      have hl0 : ¬ (strOfNums [x]).toList = [] := by rw [str_toList]; simp
      have hl1 : (strOfNums [x]).toList.isEmpty = false := by simp [hl0]
      have hsz : (strOfNums [x]).size = 1 := strOfNums_size [x]
      generalize strOfNums [x] = s at *
      go_wp2
      go_quiet (fail)
      go_wp2
      go_ret2
      have hp := HP.out
      rw [parts_one [x] rfl] at hp
      exact .inl ⟨hp, rfl, hbel.trans ⟨rfl, rfl, rfl, Nat.le_refl _, fun _ _ => rfl⟩⟩
    | x :: y :: r, hll, hlb, HP =>
      have hl0 : ¬ (strOfNums (x :: y :: r)).toList = [] := by rw [str_toList]; simp
      have hl1 : (strOfNums (x :: y :: r)).toList.isEmpty = false := by simp [hl0]
      have hsz : (strOfNums (x :: y :: r)).size = r.length + 2 := strOfNums_size (x :: y :: r)
      have hx := hlb x (by simp)
      have hy := hlb y (by simp)
      have k0 := fun W => run_str_index0 W x y r hlb
      have k1 := fun W => run_str_index1 W x y r hlb
      have e1 : IntKind.i64.wrap (2 + x) = 2 + x := IntWalk.i64_in _ (by omega)
      have e2 : IntKind.i64.wrap (256 * y) = 256 * y := IntWalk.i64_in _ (by omega)
      have e3 : IntKind.i64.wrap (2 + x + 256 * y) = 2 + x + 256 * y := IntWalk.i64_in _ (by omega)
      have hrl : r.length ≤ 1000000 := by simp at hll; omega
      obtain ⟨N, hN⟩ := Int.eq_ofNat_of_zero_le (show 0 ≤ x + 256 * y by omega)
      have hst := parts_step (x :: y :: r) N (by simp) (by simp [ofB]; omega)
      have HN := Lib.hid hN
      have HST := Lib.hid hst
      have HLL := Lib.hid hll
      clear hN hst hll
      obtain ⟨L, hL⟩ : ∃ L, r.length + 2 = L := ⟨_, rfl⟩
      rw [hL] at hsz
      have hL2 : (2 : Int) ≤ (L : Int) := by omega
      have hL3 : (L : Int) ≤ 1000002 := by omega
      have hg1 : decide ((L : Int) < 2) = false := by simp; omega
      have HL := Lib.hid hL
      clear hL
      by_cases hfit : ((L : Int) < 2 + x + 256 * y)
      · have hg2 : decide ((L : Int) < 2 + x + 256 * y) = true := by simpa using hfit
        generalize strOfNums (x :: y :: r) = s at *
        go_wp2
        go_quiet (fail)
        go_wp2
        go_ret2
        have hp := HP.out
        have hn := HN.out
        have hl := HL.out
        rw [HST.out, if_pos (by simp; omega)] at hp
        exact .inl ⟨hp, rfl, hbel.trans ⟨rfl, rfl, rfl, Nat.le_refl _, fun _ _ => rfl⟩⟩
      · have hg2 : decide ((L : Int) < 2 + x + 256 * y) = false := by simpa using hfit
        have hend : 2 + x + 256 * y = ((2 + N : Nat) : Int) := by have := HN.out; omega
        have kmid : ∀ W, (Instr.slice 9 (.string (strOfNums (x :: y :: r))) (some (.int .i64 2)) (some (.int .i64 (2 + x + 256 * y))) none).run Tryd.prog W = .ok (.string (strOfNums (r.take N))) W := fun W => by
          rw [run_slice_string W 9 _ _ _ _ _ Tryd.underlying9 (by omega) (by omega) (by rw [hsz]; omega), hend, Int.toNat_natCast, show (2 : Int).toNat = 2 from rfl, str_mid]
          simp
        have kfrom : ∀ W, (Instr.slice 9 (.string (strOfNums (x :: y :: r))) (some (.int .i64 (2 + x + 256 * y))) none none).run Tryd.prog W = .ok (.string (strOfNums (r.drop N))) W := fun W => by
          have hl := HL.out
          rw [hend, run_str_from W (x :: y :: r) (2 + N) (by simp; omega), ← List.drop_drop]
          rfl
        have HE := Lib.hid hend
        clear hend
        generalize hs : strOfNums (x :: y :: r) = s at *
        have HS := Lib.hid hs
        clear hs
        go_wp2
        go_quiet (fail)
        go_wp2
        go_quiet (fail)
        go_wp2_with (at_builtin
                     go_loud (refine wpList_append_own_at _ rfl (.tmp 34) (.tmp 38) 116 rfl w.heap.size 9 i1 (.string ByteArray.empty) 1 16 Tryd.underlying116 hj hy0 hy1 hy2 rfl (by omega) u4 done.length _ rfl (World.ownsRow.alloc (w := wr.drewN _) hown _) ⟨wr.heap.size, 0, none⟩ 1 1 [.string (strOfNums (r.take N))] rfl rfl (new_cell _ _ _) (one_str _) (by unfold maxLen; omega) (by omega) (by simp; omega) ?_)
                     intro v1 w1 hown1 hg1 _ hat1)
        go_roundw
        case rel =>
          have hl := HL.out
          have hll := HLL.out
          have he := HE.out
          have hfit2 : ¬ (x :: y :: r).length < 2 + N := by simp; omega
          refine ⟨r.drop N, done ++ [r.take N], ?_, fun b hb => hlb b (by simp [List.mem_of_mem_drop hb]), rfl, ?_, ?_, ?_⟩
          · simp at hll ⊢; omega
          · rw [HP.out, HST.out, if_neg hfit2, ← List.drop_drop]
            show Option.map _ (Option.map _ (parts (r.drop N))) = _
            generalize parts (r.drop N) = q
            cases q with
            | none => rfl
            | some p => simp
          · rw [List.length_append]
            have e1 : strs (done ++ [r.take N]) = strs done ++ [.string (strOfNums (r.take N))] := by simp [strs]
            rw [e1]
            exact hown1
          · exact (Below.alloc (w := wr.drewN _) (hbel.trans ⟨rfl, rfl, rfl, Nat.le_refl _, fun _ _ => rfl⟩) hwsz _).grown hg1 (by simp; omega) (fun g hg => (hown.lt g hg).1)
        case measure =>
          have hl := HL.out
          show (strOfNums (r.drop N)).size < s.size
          rw [strOfNums_size, hsz, List.length_drop]
          omega

end Go.Proofs.YtjedkkkhficmoaaDoor.Oct

/- The reference's sum of layer 2. -/
namespace Go.Proofs.YtjedkkkhficmoaaDoor.Crc
open Go.RowKit Go.Proofs.YtjedkkkhficmoaaDoor.Plain Go.Proofs.YtjedkkkhficmoaaDoor.Sees Go.Proofs.YtjedkkkhficmoaaDoor.Oct
set_option linter.unusedVariables false
set_option maxRecDepth 100000

/-- The reference's sum. -/
theorem step1 (x : Nat) (h : x < 4294967296) : (x % 2 = 1 ∧ bits .xor .u32 ((x : Int) / 2) 3988292384 = (zs x : Int)) ∨ (x % 2 = 0 ∧ (x : Int) / 2 = (zs x : Int)) := by
  rcases Nat.mod_two_eq_zero_or_one x with hx | hx
  · right
    refine ⟨hx, ?_⟩
    unfold zs
    rw [if_neg (by omega)]
    simp
  · left
    refine ⟨hx, ?_⟩
    have := xor_u32 (x / 2) 3988292384 (by omega) (by decide)
    unfold zs
    rw [if_pos hx, ← this]
    rfl

set_option maxHeartbeats 1600000 in
theorem refOf_any (bs : List Int) (w : World) (hlen : bs.length ≤ 1000000) (hb : ∀ b ∈ bs, 0 ≤ b ∧ b ≤ 255) :
    Calls Tryd.prog 73 #[.string (strOfNums bs)] w fun e w' => e = .returned (.int .u32 (crc bs : Nat)) ∧ w = w' := by
  have hsz : (strOfNums bs).size = bs.length := strOfNums_size bs
  have hidx := fun (i : Nat) (h : i < bs.length) => run_str_index w bs i h hb
  have HI := Lib.hid hidx
  clear hidx
  generalize strOfNums bs = s at *
  generalize hm : bs.length = m at *
  have HM := Lib.hid hm
  clear hm
  go_enter Tryd.func73, Tryd.ntmps73
  go_wp2
  go_loop [3, 4] (fun x i => ∃ k : Nat, k ≤ m ∧ i = .int .i64 k ∧ x = .int .u32 (upd 4294967295 (bs.take k) : Nat)) (fun _ i => m - (intOf i).toNat)
  case atStart => exact ⟨0, Nat.zero_le _, rfl, rfl⟩
  case round =>
    obtain ⟨k, hk, rfl, rfl⟩ := hrel
    have hu := upd_lt (bs.take k) 4294967295 (by decide) (fun c hc => hb c (List.mem_of_mem_take hc))
    by_cases hlt : k < m
    · have hk' : k < bs.length := by rw [HM.out]; exact hlt
      have hby := hb _ (get_mem bs k hk' 0)
      have HT := Lib.hid (take_snoc bs k hk' 0)
      have hi := HI.out k hlt
      generalize hx : bs[k]?.getD 0 = x at *
      have HX := Lib.hid hx
      obtain ⟨y, rfl⟩ := Int.eq_ofNat_of_zero_le hby.1
      generalize hU : upd 4294967295 (bs.take k) = u at *
      have HU := Lib.hid hU
      have hy : y < 256 := by omega
      obtain ⟨v, hv⟩ : ∃ v, u ^^^ y = v := ⟨_, rfl⟩
      have hv1 : v < 4294967296 := by rw [← hv]; exact xor_lt32 u y hu (by omega)
      have E1 := xor_u32 u y hu (by omega)
      rw [hv] at E1
      have HV := Lib.hid hv
      clear hx hU hv
      go_wp2
      go_loop [3, 5] (fun x j => ∃ q : Nat, q ≤ 8 ∧ j = .int .i64 q ∧ x = .int .u32 (zn q v : Nat)) (fun _ j => 8 - (intOf j).toNat)
      case atStart => exact ⟨0, Nat.zero_le _, rfl, rfl⟩
      case round =>
        obtain ⟨q, hq, rfl, rfl⟩ := hrel
        have hz := zn_lt q v hv1
        by_cases hq8 : q < 8
        · have HZ := Lib.hid (zn_out q v)
          generalize zn q v = z at *
          have hst := step1 z hz
          have hz2 := zs_lt z hz
          generalize zs z = z2 at *
          rcases hst with ⟨hodd, hst⟩ | ⟨hodd, hst⟩
          · have o1 : ((z : Int) % 2 == 1) = true := by rw [beq_iff_eq]; omega
            clear hodd
            go_wp2
            go_round
            case rel => exact ⟨q + 1, by omega, by go_num, by rw [HZ.out]⟩
            case measure => simp [intOf]; omega
          · have o1 : ((z : Int) % 2 == 1) = false := by rw [beq_eq_false_iff_ne]; omega
            clear hodd
            go_wp2
            go_round
            case rel => exact ⟨q + 1, by omega, by go_num, by rw [HZ.out]⟩
            case measure => simp [intOf]; omega
        · obtain rfl : q = 8 := by omega
          go_wp2
          go_round
          case rel => exact ⟨k + 1, by omega, by go_num, by rw [HT.out, upd_snoc, HU.out]; unfold byte1; rw [Int.toNat_natCast, HV.out]⟩
          case measure => simp [intOf]; omega
    · obtain rfl : k = m := by omega
      have hE : bs.take k = bs := List.take_of_length_le (by rw [HM.out]; exact Nat.le_refl _)
      rw [hE] at hu ⊢
      clear hE
      go_wp2
      go_ret
      exact ⟨congrArg (fun n => Ending.returned (.int .u32 n)) (by unfold crc; omega), rfl⟩

end Go.Proofs.YtjedkkkhficmoaaDoor.Crc

/- The reference of layer 2: Seal and Open. -/
namespace Go.Proofs.YtjedkkkhficmoaaDoor.Crc
open Go.RowKit Go.Proofs.YtjedkkkhficmoaaDoor.Plain Go.Proofs.YtjedkkkhficmoaaDoor.Sees Go.Proofs.YtjedkkkhficmoaaDoor.Oct
set_option linter.unusedVariables false
set_option maxRecDepth 100000

theorem refSeal_any (bs : List Int) (w : World) (hlen : bs.length ≤ 1000000) (hb : ∀ b ∈ bs, 0 ≤ b ∧ b ≤ 255) :
    Calls Tryd.prog 68 #[.string (strOfNums bs)] w (StrPost w (bs ++ lowB 4 (crc bs : Nat))) := by
  have hof := fun W => refOf_any bs W hlen hb
  have hq := crc_lt bs
  have hll := lowB_length 4 (crc bs : Nat)
  have hadd : ∀ W, (Op.stringOp .add (strOfNums bs) (strOfNums (lowB 4 (crc bs : Nat)))).run Tryd.prog W = .ok (.string (strOfNums (bs ++ lowB 4 (crc bs : Nat)))) W := fun W =>
    run_str_add W _ _ (by rw [hll]; omega)
  generalize crc bs = q at *
  have hnum : ∀ W, Calls Tryd.prog 72 #[.int .i64 4, .int .u64 (q : Int)] W fun e w' => e = .returned (.string (strOfNums (lowB 4 (q : Int)))) ∧ Below W.heap.size W w' := fun W => num_any 4 (q : Int) W (by omega) (by omega) (by omega)
  have HOF := Lib.hid hof
  have HN := Lib.hid hnum
  clear hof hll hnum
  go_enter Tryd.func68, Tryd.ntmps68
  go_wp2_with (first
    | (go_at_call 73; ((with_reducible refine (HOF.out _).mono ?_); rintro e w' ⟨rfl, rfl⟩))
    | (go_at_call 72; ((with_reducible refine (HN.out _).mono ?_); rintro e w' ⟨rfl, hb2⟩)))
  go_ret
  exact ⟨rfl, hb2⟩

theorem refOpen_short (s : ByteArray) (w : World) (h : s.size < 4) :
    Calls Tryd.prog 62 #[.string s] w fun e w' => e = .returned (.tuple #[.string ⟨#[]⟩, .bool false]) ∧ w = w' := by
  have h' : (s.size : Int) < 4 := by omega
  go_enter Tryd.func62, Tryd.ntmps62
  go_wp2
  go_ret2
  exact ⟨rfl, rfl⟩

theorem run_str_to (W : World) (bs : List Int) (n : Nat) (h : n ≤ bs.length) :
    (Instr.slice 9 (.string (strOfNums bs)) none (some (.int .i64 (n : Int))) none).run Tryd.prog W = .ok (.string (strOfNums (bs.take n))) W := by
  have hsz : (strOfNums bs).size = bs.length := strOfNums_size bs
  rw [run_slice_string_to_if W 9 _ _ _ Tryd.underlying9, if_pos (by rw [hsz]; omega), Int.toNat_natCast, str_mid]
  simp

set_option maxHeartbeats 800000 in
theorem refOpen_yes (pre : List Int) (n : Nat) (w : World) (hn : pre.length = n) (hlen : n ≤ 900000) (hb : ∀ b ∈ pre, 0 ≤ b ∧ b ≤ 255) :
    Calls Tryd.prog 62 #[.string (strOfNums (pre ++ lowB 4 (crc pre : Nat)))] w fun e w' => e = .returned (.tuple #[.string (strOfNums pre), .bool true]) ∧ Below w.heap.size w w' := by
  have hseal : ∀ W, Calls Tryd.prog 68 #[.string (strOfNums pre)] W fun e w' => e = .returned (.string (strOfNums (pre ++ lowB 4 (crc pre : Nat)))) ∧ Below W.heap.size W w' := fun W => refSeal_any pre W (by omega) hb
  have hll := lowB_length 4 (crc pre : Nat)
  generalize lowB 4 (crc pre : Nat) = q at *
  have hto := fun W => run_str_to W (pre ++ q) n (by rw [List.length_append]; omega)
  rw [List.take_left' hn] at hto
  have hsz : (strOfNums (pre ++ q)).size = n + 4 := by rw [strOfNums_size, List.length_append, hn, hll]
  have he : ((n + 4 : Nat) : Int) - 4 = (n : Int) := by omega
  generalize strOfNums (pre ++ q) = s at *
  obtain ⟨m, hmm⟩ : ∃ m, n + 4 = m := ⟨_, rfl⟩
  rw [hmm] at he hsz
  have h4 : ¬ (m : Int) < 4 := by omega
  have hm2 : m ≤ 1000000 := by omega
  have HS := Lib.hid hseal
  have HM := Lib.hid hmm
  clear hseal hll hn hmm
  go_enter Tryd.func62, Tryd.ntmps62
  go_wp2_with (go_at_call 68; ((with_reducible refine (HS.out _).mono ?_); rintro e w' ⟨rfl, hb2⟩))
  go_ret2
  exact ⟨rfl, hb2⟩

set_option maxHeartbeats 800000 in
theorem refOpen_no (pre q : List Int) (n : Nat) (w : World) (hn : pre.length = n) (hq : q.length = 4) (hlen : n ≤ 900000) (hb : ∀ b ∈ pre ++ q, 0 ≤ b ∧ b ≤ 255) (hne : q ≠ lowB 4 (crc pre : Nat)) :
    Calls Tryd.prog 62 #[.string (strOfNums (pre ++ q))] w fun e w' => e = .returned (.tuple #[.string ⟨#[]⟩, .bool false]) ∧ Below w.heap.size w w' := by
  have hseal : ∀ W, Calls Tryd.prog 68 #[.string (strOfNums pre)] W fun e w' => e = .returned (.string (strOfNums (pre ++ lowB 4 (crc pre : Nat)))) ∧ Below W.heap.size W w' := fun W => refSeal_any pre W (by omega) (fun b h => hb b (by simp [h]))
  have hlb := lowB_mem 4 (crc pre : Nat)
  generalize lowB 4 (crc pre : Nat) = q2 at *
  have hdiff : ((strOfNums (pre ++ q2)).toList == (strOfNums (pre ++ q)).toList) = false := by
    rw [beq_eq_false_iff_ne]
    intro e
    rw [str_toList, str_toList] at e
    have h1 := bytes_inj (pre ++ q2) (pre ++ q) (fun x hx => by
      rcases List.mem_append.1 hx with h | h
      · exact hb x (by simp [h])
      · exact hlb x h) hb e
    exact hne (List.append_cancel_left h1).symm
  have hto := fun W => run_str_to W (pre ++ q) n (by rw [List.length_append]; omega)
  rw [List.take_left' hn] at hto
  have hsz : (strOfNums (pre ++ q)).size = n + 4 := by rw [strOfNums_size, List.length_append, hn, hq]
  have he : ((n + 4 : Nat) : Int) - 4 = (n : Int) := by omega
  generalize strOfNums (pre ++ q) = s at *
  generalize strOfNums (pre ++ q2) = s2 at *
  obtain ⟨m, hmm⟩ : ∃ m, n + 4 = m := ⟨_, rfl⟩
  rw [hmm] at he hsz
  have h4 : ¬ (m : Int) < 4 := by omega
  have hm2 : m ≤ 1000000 := by omega
  have HS := Lib.hid hseal
  clear hseal hn hmm hne hlb hq
  go_enter Tryd.func62, Tryd.ntmps62
  go_wp2_with (go_at_call 68; ((with_reducible refine (HS.out _).mono ?_); rintro e w' ⟨rfl, hb2⟩))
  go_ret2
  exact ⟨rfl, hb2⟩

end Go.Proofs.YtjedkkkhficmoaaDoor.Crc
