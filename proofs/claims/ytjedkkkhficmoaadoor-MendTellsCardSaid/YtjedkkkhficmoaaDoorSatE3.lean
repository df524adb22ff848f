/- The contract of sat.Sum. -/
import Derived.Test.YtjedkkkhficmoaaDoorSatE2
import Derived.Test.YtjedkkkhficmoaaDoorSatD
namespace Go.Proofs.YtjedkkkhficmoaaDoor.Sat
open Go.RowKit Go.Proofs.YtjedkkkhficmoaaDoor.SatP
set_option linter.unusedVariables false

set_option maxHeartbeats 800000 in
theorem within_sum (zs : List Int) (A : Option Addr) (len cap gl : Nat) (w : World) (hl : zs.length = len) (hm : len ≤ maxLen) (hsee : Sees.Sees w w.heap.size A (Sees.nums .i64 zs)) (hc : w.cell? ⟨gl, 0, none⟩ = some (.slice A len cap)) (nl : gl < w.heap.size) :
    Calls Tryd.prog 43 #[.func (.func 44) #[] #[.pointer (some ⟨gl, 0, none⟩)]] w (Pair w (sumV zs) (sumM zs)) := by
  have hmf : ∀ (fn : Fn) (first cap : Array Value) (w : World), (Instr.makeFunc fn first cap).run Tryd.prog w = .ok (.func fn first cap) w := fun _ _ _ _ => rfl
  have hw1 := sum1_any zs A len cap gl w.heap.size (w.alloc (.cells #[.bool false] 4)) hl hm (hsee.below ((Below.refl _ _).alloc (Nat.le_refl _) _) (Nat.le_refl _)) (Met.new w false) (by rw [World.cell?_alloc_past _ _ _ nl]; exact hc)
  have HW := Lib.hid hw1
  clear hw1 hl hm hsee hc
  go_enter Tryd.func43, Tryd.ntmps43
  go_wp2_with (go_at_call 44; refine HW.out.mono ?_; rintro e w1 ⟨rfl, hm1, hg1⟩; have hc1 := hm1.cell; have HM := Lib.hid hm1; clear hm1)
  go_quiet (fail)
  go_wp2
  go_ret2
  exact ⟨rfl, below_drewN (work_below _ hg1) _⟩

/-- sat.Sum -/
theorem Sum_any (zs : List Int) (A : Option Addr) (len cap : Nat) (w : World) (hl : zs.length = len) (hm : len ≤ maxLen) (hsee : Sees.Sees w w.heap.size A (Sees.nums .i64 zs)) :
    Calls Tryd.prog 32 #[.slice A len cap] w (Pair w (sumV zs) (sumM zs)) := by
  have hmf : ∀ (fn : Fn) (first cap : Array Value) (w : World), (Instr.makeFunc fn first cap).run Tryd.prog w = .ok (.func fn first cap) w := fun _ _ _ _ => rfl
  have hb := (Below.refl w.heap.size w).alloc (Nat.le_refl _) (.cells #[.slice A len cap] 80)
  have hw1 := within_sum zs A len cap w.heap.size (w.alloc (.cells #[.slice A len cap] 80)) hl hm ((hsee.below hb (Nat.le_refl _)).more hb.size)
    (by rw [World.cell?_alloc_at _ _ _ _ rfl]; rfl) (by simp)
  have HW := Lib.hid hw1
  clear hw1 hl hm hsee
  go_enter Tryd.func32, Tryd.ntmps32
  go_wp2_with (go_at_call 43; refine HW.out.mono ?_; rintro e w1 ⟨rfl, hd1⟩)
  go_ret2
  exact ⟨rfl, hb.trans (hd1.mono (by simp))⟩

end Go.Proofs.YtjedkkkhficmoaaDoor.Sat
