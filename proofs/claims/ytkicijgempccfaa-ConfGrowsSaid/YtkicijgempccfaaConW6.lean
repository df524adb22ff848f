/- The walk of ConfGrows. -/
import Derived.Test.YtkicijgempccfaaConW6tt
import Derived.Test.YtkicijgempccfaaConW6tf
import Derived.Test.YtkicijgempccfaaConW6ft
import Derived.Test.YtkicijgempccfaaConW6ff
namespace Go.Proofs.Ytkicijgempccfaa.Walk
open Go.RowKit Go.ChangeShapes Go.Proofs.Ytkicijgempccfaa.RatP Go.Proofs.Ytkicijgempccfaa.SatP Go.Proofs.Ytkicijgempccfaa.ConP Go.Proofs.Ytkicijgempccfaa.Rat Go.Proofs.Ytkicijgempccfaa.Con
set_option linter.unusedVariables false

set_option maxRecDepth 100000 in
set_option maxHeartbeats 16000000 in
theorem confGrows_walk (w : World) (v : V) (b : Int) (hin : V.In w v) (w1 : (Lit.int .u16 b).wf = true) : Calls Try.prog 5 #[v.val, .int .u16 b] w fun e w' => e = .returned (.bool true) ∧ Below w.heap.size w w' := by
  have HIN0 := Lib.hid hin
  have HWF := Lib.hid w1
  clear w1
  have H0 := Lib.hid (LJ.new hin 25)
  have HIN := Lib.hid hin
  clear hin
  unfold V.arr at H0
  cases hsm : smB v
  · have HS := Lib.hid hsm
    clear hsm
    unfold V.val
    go_enter Try.func5, Try.ntmps5
    go_wp2_with (first
      | (go_at_call 9; refine (lj_awake H0).mono ?_; clear H0; rintro e w1 ⟨rfl, h1⟩; obtain ⟨a0, a1, a2, a3, a4, a5, a6, a7, a8, a9, a10, a11, a12⟩ := lj_all h1)
      | (go_at_call 10; refine (lj_small HS h1).mono ?_; clear h1; rintro e w2 ⟨rfl, h2⟩))
    go_ret
    exact ⟨rfl, h2.out.below⟩
  have HS := Lib.hid hsm
  clear hsm
  cases hq : mayC v.c
  · have HQ := Lib.hid hq
    clear hq
    unfold V.val
    go_enter Try.func5, Try.ntmps5
    go_wp2_with (first
      | (go_at_call 9; refine (lj_awake H0).mono ?_; clear H0; rintro e w1 ⟨rfl, h1⟩; obtain ⟨a0, a1, a2, a3, a4, a5, a6, a7, a8, a9, a10, a11, a12⟩ := lj_all h1)
      | (go_at_call 10; refine (lj_small HS h1).mono ?_; clear h1 a0 a1 a2 a3 a4 a5 a6 a7 a8 a9 a10 a11 a12; rintro e w2 ⟨rfl, h2⟩; obtain ⟨a0, a1, a2, a3, a4, a5, a6, a7, a8, a9, a10, a11, a12⟩ := lj_all h2)
      | (go_at_call 11; refine (lj_check HS HQ h2).mono ?_; clear h2; rintro e w3 ⟨rfl, h3⟩))
    go_ret
    exact ⟨rfl, h3.out.below⟩
  have HQ := Lib.hid hq
  have HM := Lib.hid ((mayC_iff v.c).1 hq)
  clear hq

  cases hq1 : decide (v.c.floors < 32) <;> cases hq2 : decide ((v.c.banks.length : Int) < 8)
  · exact grows_ff w v b HIN0.out HWF.out HS.out HQ.out hq1 hq2
  · exact grows_ft w v b HIN0.out HWF.out HS.out HQ.out hq1 hq2
  · exact grows_tf w v b HIN0.out HWF.out HS.out HQ.out hq1 hq2
  · exact grows_tt w v b HIN0.out HWF.out HS.out HQ.out hq1 hq2

end Go.Proofs.Ytkicijgempccfaa.Walk
