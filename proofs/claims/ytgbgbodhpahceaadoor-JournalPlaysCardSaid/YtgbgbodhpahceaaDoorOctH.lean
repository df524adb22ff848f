/- The contract of the reference's Part of layer 1. -/
import Derived.Test.YtgbgbodhpahceaaDoorOctG
namespace Go.Proofs.YtgbgbodhpahceaaDoor.Oct
open Go.RowKit Go.Proofs.YtgbgbodhpahceaaDoor.Plain Go.Proofs.YtgbgbodhpahceaaDoor.Sees
set_option linter.unusedVariables false
set_option maxRecDepth 100000

theorem info_string : (Tryd.prog.info? 9).map (fun i => (i.zero, i.size, i.bytes)) = some (some (.string ByteArray.empty), 1, 16) := by kernel_rfl

def strs (l : List (List Int)) : List Value := l.map fun p => .string (strOfNums p)

def RPartPost (w : World) (bs : List Int) (e : Ending) (w' : World) : Prop :=
  (parts bs = none ∧ e = .returned (.tuple #[.slice none 0 0, .int .i64 10]) ∧ Below w.heap.size w w') ∨
  ∃ v ps, parts bs = some ps ∧ e = .returned (.tuple #[v, .int .i64 0]) ∧ w'.ownsRow w.heap.size 9 1 v ps.length (strs ps) ∧ Below w.heap.size w w'

theorem one_str (s : ByteArray) : ∀ u ∈ [Value.string s], u.oneCell' = true := by
  intro u hu
  simp at hu
  subst hu
  rfl
theorem run_str_index0 (W : World) (x y : Int) (r : List Int) (hb : ∀ b ∈ x :: y :: r, 0 ≤ b ∧ b ≤ 255) :
    (Instr.index 9 (.string (strOfNums (x :: y :: r))) (.int .i64 0)).run Tryd.prog W = .ok (.int .u8 x) W :=
  run_str_index W (x :: y :: r) 0 (by simp) hb
theorem run_str_index1 (W : World) (x y : Int) (r : List Int) (hb : ∀ b ∈ x :: y :: r, 0 ≤ b ∧ b ≤ 255) :
    (Instr.index 9 (.string (strOfNums (x :: y :: r))) (.int .i64 1)).run Tryd.prog W = .ok (.int .u8 y) W :=
  run_str_index W (x :: y :: r) 1 (by simp) hb

set_option maxHeartbeats 1600000 in
theorem rpart_any (bs : List Int) (w : World) (hlen : bs.length ≤ 1000000) (hb : ∀ b ∈ bs, 0 ≤ b ∧ b ≤ 255) :
    Calls Tryd.prog 32 #[.string (strOfNums bs)] w (RPartPost w bs) := by
  obtain ⟨i1, hj, hy0, hy1, hy2⟩ := info_parts info_string
  go_enter Tryd.func32, Tryd.ntmps32
  go_wp2
  go_loopw [0, 4] (fun s out wr => ∃ (l : List Int) (done : List (List Int)), l.length + 2 * done.length ≤ bs.length ∧ (∀ b ∈ l, 0 ≤ b ∧ b ≤ 255) ∧ s = .string (strOfNums l) ∧ parts bs = (parts l).map (done ++ ·) ∧
      wr.ownsRow w.heap.size 9 1 out done.length (strs done) ∧ Below w.heap.size w wr)
    (fun s _ _ => match s with | .string b => b.size | _ => 0)
  case atStart => exact ⟨bs, [], by simp, hb, rfl, by simp, World.ownsRow_nil _ _ _ _, Below.refl _ _⟩
  case round =>
    obtain ⟨l, done, hll, hlb, rfl, hparts, hown, hbel⟩ := hrel
    have hwsz := hbel.size
    have HP := Lib.hid hparts
    clear hparts
    have hdl : done.length ≤ 1000000 := by omega
    match l, hll, hlb, HP with
    | [], hll, hlb, HP =>
      rw [str_nil]
      go_wp2
      go_ret2
      have hp := HP.out
      rw [parts_nil] at hp
      exact .inr ⟨_, done, by simpa using hp, rfl, hown, hbel⟩
    | [x], hll, hlb, HP =>
      have hl0 : ¬ (strOfNums [x]).toList = [] := by rw [str_toList]; simp
      have hl1 : (strOfNums [x]).toList.isEmpty = false := by simp [hl0]
      have hsz : (strOfNums [x]).size = 1 := strOfNums_size [x]
      generalize strOfNums [x] = s at *
      go_wp2
      go_quiet (fail)
      go_wp2
      go_ret2
      have hp := HP.out
      rw [parts_one [x] rfl] at hp
      exact .inl ⟨hp, rfl, hbel.trans ⟨rfl, rfl, rfl, Nat.le_refl _, fun _ _ => rfl⟩⟩
    | x :: y :: r, hll, hlb, HP =>
      have hl0 : ¬ (strOfNums (x :: y :: r)).toList = [] := by rw [str_toList]; simp
      have hl1 : (strOfNums (x :: y :: r)).toList.isEmpty = false := by simp [hl0]
      have hsz : (strOfNums (x :: y :: r)).size = r.length + 2 := strOfNums_size (x :: y :: r)
      have hx := hlb x (by simp)
      have hy := hlb y (by simp)
      have k0 := fun W => run_str_index0 W x y r hlb
      have k1 := fun W => run_str_index1 W x y r hlb
      have e1 : IntKind.i64.wrap (2 + x) = 2 + x := IntWalk.i64_in _ (by omega)
      have e2 : IntKind.i64.wrap (256 * y) = 256 * y := IntWalk.i64_in _ (by omega)
      have e3 : IntKind.i64.wrap (2 + x + 256 * y) = 2 + x + 256 * y := IntWalk.i64_in _ (by omega)
      have hrl : r.length ≤ 1000000 := by simp at hll; omega
      obtain ⟨N, hN⟩ := Int.eq_ofNat_of_zero_le (show 0 ≤ x + 256 * y by omega)
      have hst := parts_step (x :: y :: r) N (by simp) (by simp [ofB]; omega)
      have HN := Lib.hid hN
      have HST := Lib.hid hst
      have HLL := Lib.hid hll
      clear hN hst hll
      obtain ⟨L, hL⟩ : ∃ L, r.length + 2 = L := ⟨_, rfl⟩
      rw [hL] at hsz
      have hL2 : (2 : Int) ≤ (L : Int) := by omega
      have hL3 : (L : Int) ≤ 1000002 := by omega
      have hg1 : decide ((L : Int) < 2) = false := by simp; omega
      have HL := Lib.hid hL
      clear hL
      by_cases hfit : ((L : Int) < 2 + x + 256 * y)
      · have hg2 : decide ((L : Int) < 2 + x + 256 * y) = true := by simpa using hfit
        generalize strOfNums (x :: y :: r) = s at *
        go_wp2
        go_quiet (fail)
        go_wp2
        go_ret2
        have hp := HP.out
        have hn := HN.out
        have hl := HL.out
        rw [HST.out, if_pos (by simp; omega)] at hp
        exact .inl ⟨hp, rfl, hbel.trans ⟨rfl, rfl, rfl, Nat.le_refl _, fun _ _ => rfl⟩⟩
      · have hg2 : decide ((L : Int) < 2 + x + 256 * y) = false := by simpa using hfit
        have hend : 2 + x + 256 * y = ((2 + N : Nat) : Int) := by have := HN.out; omega
        have kmid : ∀ W, (Instr.slice 9 (.string (strOfNums (x :: y :: r))) (some (.int .i64 2)) (some (.int .i64 (2 + x + 256 * y))) none).run Tryd.prog W = .ok (.string (strOfNums (r.take N))) W := fun W => by
          rw [run_slice_string W 9 _ _ _ _ _ Tryd.underlying9 (by omega) (by omega) (by rw [hsz]; omega), hend, Int.toNat_natCast, show (2 : Int).toNat = 2 from rfl, str_mid]
          simp
        have kfrom : ∀ W, (Instr.slice 9 (.string (strOfNums (x :: y :: r))) (some (.int .i64 (2 + x + 256 * y))) none none).run Tryd.prog W = .ok (.string (strOfNums (r.drop N))) W := fun W => by
          have hl := HL.out
          rw [hend, run_str_from W (x :: y :: r) (2 + N) (by simp; omega), ← List.drop_drop]
          rfl
        have HE := Lib.hid hend
        clear hend
        generalize hs : strOfNums (x :: y :: r) = s at *
        have HS := Lib.hid hs
        clear hs
        go_wp2
        go_quiet (fail)
        go_wp2
        go_quiet (fail)
        go_wp2_with (at_builtin
                     go_loud (refine wpList_append_own_at _ rfl (.tmp 34) (.tmp 38) 80 rfl w.heap.size 9 i1 (.string ByteArray.empty) 1 16 Tryd.underlying80 hj hy0 hy1 hy2 rfl (by omega) u4 done.length _ rfl (World.ownsRow.alloc (w := wr.drewN _) hown _) ⟨wr.heap.size, 0, none⟩ 1 1 [.string (strOfNums (r.take N))] rfl rfl (new_cell _ _ _) (one_str _) (by unfold maxLen; omega) (by omega) (by simp; omega) ?_)
                     intro v1 w1 hown1 hg1 _ hat1)
        go_roundw
        case rel =>
          have hl := HL.out
          have hll := HLL.out
          have he := HE.out
          have hfit2 : ¬ (x :: y :: r).length < 2 + N := by simp; omega
          refine ⟨r.drop N, done ++ [r.take N], ?_, fun b hb => hlb b (by simp [List.mem_of_mem_drop hb]), rfl, ?_, ?_, ?_⟩
          · simp at hll ⊢; omega
          · rw [HP.out, HST.out, if_neg hfit2, ← List.drop_drop]
            show Option.map _ (Option.map _ (parts (r.drop N))) = _
            generalize parts (r.drop N) = q
            cases q with
            | none => rfl
            | some p => simp
          · rw [List.length_append]
            have e1 : strs (done ++ [r.take N]) = strs done ++ [.string (strOfNums (r.take N))] := by simp [strs]
            rw [e1]
            exact hown1
          · exact (Below.alloc (w := wr.drewN _) (hbel.trans ⟨rfl, rfl, rfl, Nat.le_refl _, fun _ _ => rfl⟩) hwsz _).grown hg1 (by simp; omega) (fun g hg => (hown.lt g hg).1)
        case measure =>
          have hl := HL.out
          show (strOfNums (r.drop N)).size < s.size
          rw [strOfNums_size, hsz, List.length_drop]
          omega

end Go.Proofs.YtgbgbodhpahceaaDoor.Oct
