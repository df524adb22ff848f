/- The contract of leaf.Wide. -/
import Derived.Test.YtaknnkmdfimcbaaLefA0
namespace Go.Proofs.Ytaknnkmdfimcbaa.Lef
open Go.RowKit Go.Proofs.Ytaknnkmdfimcbaa.LefP Go.Proofs.Ytaknnkmdfimcbaa.Box Go.Proofs.Ytaknnkmdfimcbaa.Held
set_option linter.unusedVariables false

theorem Wide_any (c : L) (w : World) : Calls Try.prog 16 #[val c] w (Says w (.bool (decide (c.o = c.d)))) := by
  obtain ⟨o, d⟩ := c
  unfold val
  go_enter Try.func16, Try.ntmps16
  go_wp2
  go_ret
  first | exact ⟨rfl, below_box⟩ | exact ⟨ret_bool (by simp), below_box⟩

end Go.Proofs.Ytaknnkmdfimcbaa.Lef
