/- The contract of Sum's closure. -/
import Derived.Test.YtjedkkkhficmoaaDoorSatB0
namespace Go.Proofs.YtjedkkkhficmoaaDoor.Sat
open Go.RowKit Go.Proofs.YtjedkkkhficmoaaDoor.SatP
set_option linter.unusedVariables false

theorem bounded_m {w0 w : World} {g : Nat} {m : Bool} (n : Int) (h : Hid (Met w g m ∧ w0.grownBy w (some g))) :
    Calls Tryd.prog 56 #[.int .i64 n, .pointer (some ⟨g, 0, none⟩)] w fun e w' => e = .returned (.int .i64 (bnd n)) ∧ Hid (Met w' g (m || metB n) ∧ w0.grownBy w' (some g)) := by
  obtain ⟨h1, h2⟩ := h.out
  refine (bounded_any n g m w h1).mono ?_
  rintro e w' ⟨rfl, rfl⟩
  exact ⟨rfl, Lib.hid ⟨h1.set _, grown_set h2 _⟩⟩

set_option maxHeartbeats 1600000 in
theorem sum1_any (zs : List Int) (A : Option Addr) (len cap : Nat) (gl g : Nat) (w : World) (hl : zs.length = len) (hm : len ≤ maxLen) (hsee : Sees.Sees w g A (Sees.nums .i64 zs)) (hg : Met w g false) (hc : w.cell? ⟨gl, 0, none⟩ = some (.slice A len cap)) :
    Calls Tryd.prog 44 #[.func (.func 56) #[] #[.pointer (some ⟨g, 0, none⟩)], .pointer (some ⟨gl, 0, none⟩)] w (WorkPost w g false (sumV zs) (sumM zs)) := by
  unfold maxLen at hm
  have HL := Lib.hid hl
  clear hl
  go_enter Tryd.func44, Tryd.ntmps44
  go_wp2
  go_loopw [4, 9] (fun s i wr => ∃ k : Nat, k ≤ len ∧ i = .int .i64 k ∧ s = .int .i64 (sumV (zs.take k)) ∧ Met wr g (sumM (zs.take k)) ∧ w.grownBy wr (some g)) (fun _ i _ => len - (intOf i).toNat)
  case atStart => exact ⟨0, Nat.zero_le _, rfl, rfl, hg, World.grownBy.refl w _⟩
  case round =>
    obtain ⟨k, hk, rfl, rfl, hM, hgr⟩ := hrel
    have hs := sumV_le (zs.take k)
    by_cases hlt : k < len
    · obtain ⟨b, o, rfl, hbB, hcell⟩ := hsee.at_ (Sees.nums_at .i64 zs k (by rw [HL.out]; exact hlt))
      have hc' := (World.cell?_of_block (hgr.block b (Nat.lt_trans hbB (lt_of_block hg)) (by intro e; injection e with e; omega))).trans hcell
      have HT := Lib.hid (Plain.take_snoc zs k (by rw [HL.out]; exact hlt) 0)
      generalize zs[k]?.getD 0 = x at *
      generalize hS : sumV (zs.take k) = s at *
      generalize hB : sumM (zs.take k) = bm at *
      have HS := Lib.hid hS
      have HB := Lib.hid hB
      clear hS hB hcell
      have h1 := bnd_ge x
      have h2 := bnd_le x
      have HM := Lib.hid (And.intro hM hgr)
      clear hM hgr
      go_wp2_with (go_at_call 56; refine (bounded_m _ ‹Hid (Met _ _ _ ∧ World.grownBy _ _ _)›).mono ?_; rintro e w' ⟨rfl, hj⟩)
      go_roundw
      case rel =>
        refine ⟨k + 1, by omega, by go_num, ?_, met_as ‹Hid (Met _ _ _ ∧ World.grownBy _ _ _)›.out.1 ?_, ‹Hid (Met _ _ _ ∧ World.grownBy _ _ _)›.out.2⟩
        · rw [HT.out, sumV_snoc, HS.out]
        · rw [HT.out, sumM_snoc, HS.out, HB.out]
      case measure => simp [intOf]; omega
    · obtain rfl : k = len := by omega
      rw [List.take_of_length_le (by rw [HL.out]; exact Nat.le_refl _)] at hM
      have hT : zs.take k = zs := List.take_of_length_le (by rw [HL.out]; exact Nat.le_refl _)
      have HT := Lib.hid hT
      clear hT
      go_wp2
      go_ret
      exact ⟨ret_int (by rw [HT.out]), met_as hM (by simp), hgr⟩

end Go.Proofs.YtjedkkkhficmoaaDoor.Sat
