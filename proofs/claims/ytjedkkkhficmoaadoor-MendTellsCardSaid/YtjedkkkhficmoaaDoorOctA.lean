/- The contract of octet.get. -/
import Derived.Test.YtjedkkkhficmoaaDoorOctP
namespace Go.Proofs.YtjedkkkhficmoaaDoor.Oct
open Go.RowKit Go.Proofs.YtjedkkkhficmoaaDoor.Plain Go.Proofs.YtjedkkkhficmoaaDoor.Sees
set_option linter.unusedVariables false

theorem info_u64 : (Tryd.prog.info? 59).map (fun i => (i.zero, i.size, i.bytes)) = some (some (.int .u64 0), 1, 8) := by kernel_rfl

set_option maxHeartbeats 400000 in
theorem get_any (a : Option Addr) (m c size B : Nat) (bs : List Int) (w : World) (hs : size ≤ 8) (hm : size ≤ m) (hlen : bs.length = m) (hmx : m ≤ maxLen)
    (hsee : Sees w B a (nums .u8 bs)) (hb : ∀ b ∈ bs, 0 ≤ b ∧ b ≤ 255) :
    Calls Tryd.prog 59 #[.int .i64 size, .slice a m c] w fun e w' => e = .returned (.int .u64 (ofB (bs.take size))) ∧ w = w' := by
  unfold maxLen at hmx
  go_enter Tryd.func59, Tryd.ntmps59
  go_wp2
  go_loop [5, 8] (fun n i => ∃ k : Nat, k ≤ size ∧ i = .int .i64 k ∧ n = .int .u64 (ofB (bs.take k))) (fun _ i => size - (intOf i).toNat)
  case atStart => exact ⟨0, Nat.zero_le _, rfl, rfl⟩
  case round =>
    obtain ⟨k, hk, rfl, rfl⟩ := hrel
    by_cases hlt : k < size
    · obtain ⟨b, o, rfl, hbB, hc⟩ := hsee.at_ (nums_at .u8 bs k (by omega))
      have hby := hb _ (get_mem bs k (by omega) 0)
      have H := Lib.hid (or_step (bs.take k) (bs[k]?.getD 0) (by simp; omega) (fun c hc => hb c (List.mem_of_mem_take hc)) hby)
      go_wp2
      go_round
      case rel =>
        refine ⟨k + 1, by omega, by go_num, ?_⟩
        have h1 := H.out
        rw [List.length_take, Nat.min_eq_left (by omega)] at h1
        rw [h1, take_snoc bs k (by omega) 0]
      case measure => simp [intOf]; omega
    · go_wp2
      go_ret
      obtain rfl : k = size := by omega
      exact ⟨rfl, rfl⟩

end Go.Proofs.YtjedkkkhficmoaaDoor.Oct
