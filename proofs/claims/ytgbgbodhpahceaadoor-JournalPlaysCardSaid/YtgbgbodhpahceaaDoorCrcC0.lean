/- The reference's sum of layer 2. -/
import Derived.Test.YtgbgbodhpahceaaDoorCrcB
import Derived.Test.YtgbgbodhpahceaaDoorNum
namespace Go.Proofs.YtgbgbodhpahceaaDoor.Crc
open Go.RowKit Go.Proofs.YtgbgbodhpahceaaDoor.Plain Go.Proofs.YtgbgbodhpahceaaDoor.Sees Go.Proofs.YtgbgbodhpahceaaDoor.Oct
set_option linter.unusedVariables false
set_option maxRecDepth 100000

/-- The reference's sum. -/
theorem step1 (x : Nat) (h : x < 4294967296) : (x % 2 = 1 ∧ bits .xor .u32 ((x : Int) / 2) 3988292384 = (zs x : Int)) ∨ (x % 2 = 0 ∧ (x : Int) / 2 = (zs x : Int)) := by
  rcases Nat.mod_two_eq_zero_or_one x with hx | hx
  · right
    refine ⟨hx, ?_⟩
    unfold zs
    rw [if_neg (by omega)]
    simp
  · left
    refine ⟨hx, ?_⟩
    have := xor_u32 (x / 2) 3988292384 (by omega) (by decide)
    unfold zs
    rw [if_pos hx, ← this]
    rfl

set_option maxHeartbeats 1600000 in
theorem refOf_any (bs : List Int) (w : World) (hlen : bs.length ≤ 1000000) (hb : ∀ b ∈ bs, 0 ≤ b ∧ b ≤ 255) :
    Calls Tryd.prog 60 #[.string (strOfNums bs)] w fun e w' => e = .returned (.int .u32 (crc bs : Nat)) ∧ w = w' := by
  have hsz : (strOfNums bs).size = bs.length := strOfNums_size bs
  have hidx := fun (i : Nat) (h : i < bs.length) => run_str_index w bs i h hb
  have HI := Lib.hid hidx
  clear hidx
  generalize strOfNums bs = s at *
  generalize hm : bs.length = m at *
  have HM := Lib.hid hm
  clear hm
  go_enter Tryd.func60, Tryd.ntmps60
  go_wp2
  go_loop [3, 4] (fun x i => ∃ k : Nat, k ≤ m ∧ i = .int .i64 k ∧ x = .int .u32 (upd 4294967295 (bs.take k) : Nat)) (fun _ i => m - (intOf i).toNat)
  case atStart => exact ⟨0, Nat.zero_le _, rfl, rfl⟩
  case round =>
    obtain ⟨k, hk, rfl, rfl⟩ := hrel
    have hu := upd_lt (bs.take k) 4294967295 (by decide) (fun c hc => hb c (List.mem_of_mem_take hc))
    by_cases hlt : k < m
    · have hk' : k < bs.length := by rw [HM.out]; exact hlt
      have hby := hb _ (get_mem bs k hk' 0)
      have HT := Lib.hid (take_snoc bs k hk' 0)
      have hi := HI.out k hlt
      generalize hx : bs[k]?.getD 0 = x at *
      have HX := Lib.hid hx
      obtain ⟨y, rfl⟩ := Int.eq_ofNat_of_zero_le hby.1
      generalize hU : upd 4294967295 (bs.take k) = u at *
      have HU := Lib.hid hU
      have hy : y < 256 := by omega
      obtain ⟨v, hv⟩ : ∃ v, u ^^^ y = v := ⟨_, rfl⟩
      have hv1 : v < 4294967296 := by rw [← hv]; exact xor_lt32 u y hu (by omega)
      have E1 := xor_u32 u y hu (by omega)
      rw [hv] at E1
      have HV := Lib.hid hv
      clear hx hU hv
      go_wp2
      go_loop [3, 5] (fun x j => ∃ q : Nat, q ≤ 8 ∧ j = .int .i64 q ∧ x = .int .u32 (zn q v : Nat)) (fun _ j => 8 - (intOf j).toNat)
      case atStart => exact ⟨0, Nat.zero_le _, rfl, rfl⟩
      case round =>
        obtain ⟨q, hq, rfl, rfl⟩ := hrel
        have hz := zn_lt q v hv1
        by_cases hq8 : q < 8
        · have HZ := Lib.hid (zn_out q v)
          generalize zn q v = z at *
          have hst := step1 z hz
          have hz2 := zs_lt z hz
          generalize zs z = z2 at *
          rcases hst with ⟨hodd, hst⟩ | ⟨hodd, hst⟩
          · have o1 : ((z : Int) % 2 == 1) = true := by rw [beq_iff_eq]; omega
            clear hodd
            go_wp2
            go_round
            case rel => exact ⟨q + 1, by omega, by go_num, by rw [HZ.out]⟩
            case measure => simp [intOf]; omega
          · have o1 : ((z : Int) % 2 == 1) = false := by rw [beq_eq_false_iff_ne]; omega
            clear hodd
            go_wp2
            go_round
            case rel => exact ⟨q + 1, by omega, by go_num, by rw [HZ.out]⟩
            case measure => simp [intOf]; omega
        · obtain rfl : q = 8 := by omega
          go_wp2
          go_round
          case rel => exact ⟨k + 1, by omega, by go_num, by rw [HT.out, upd_snoc, HU.out]; unfold byte1; rw [Int.toNat_natCast, HV.out]⟩
          case measure => simp [intOf]; omega
    · obtain rfl : k = m := by omega
      have hE : bs.take k = bs := List.take_of_length_le (by rw [HM.out]; exact Nat.le_refl _)
      rw [hE] at hu ⊢
      clear hE
      go_wp2
      go_ret
      exact ⟨congrArg (fun n => Ending.returned (.int .u32 n)) (by unfold crc; omega), rfl⟩

end Go.Proofs.YtgbgbodhpahceaaDoor.Crc
